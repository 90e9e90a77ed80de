"""Spans: how warm a room may be behind a turn, and which of its bands that touches."""

from stoke.ratios import WHOLE, fraction, under


# Lowest terms are sought only once, behind the last sum: with many figures they are most of the work.
def sum_of_products(pairs):
    top = 0
    bottom = 1
    for one, other in pairs:
        below = one[1] * other[1]
        top = top * below + one[0] * other[0] * bottom
        bottom = bottom * below
    return fraction(top, bottom)


def warmth_of(hold, room, airs, weather, fired):
    pairs = [(hold.share(room, of), air) for of, air in enumerate(airs)]
    pairs.append((hold.sky(room)[0], weather))
    if fired:
        pairs.append((WHOLE, hold.stove(room)[0]))
    return sum_of_products(pairs)


# No share is below nought, so the least of all airs and of the weather make the least warmth.
def span_of(hold, room, bands, fired):
    low, high = hold.sky(room)[1:]
    lows = [hold.marks(of)[band] for of, band in enumerate(bands)]
    highs = [hold.marks(of)[band + 1] for of, band in enumerate(bands)]
    return (warmth_of(hold, room, lows, low, fired), warmth_of(hold, room, highs, high, fired))


def touched(hold, room, least, greatest):
    marks = hold.marks(room)
    return [
        band for band in range(len(marks) - 1)
        if not under(greatest, marks[band]) and not under(marks[band + 1], least)
    ]


def within(hold, room, least, greatest):
    marks = hold.marks(room)
    return not under(least, marks[0]) and not under(marks[-1], greatest)
