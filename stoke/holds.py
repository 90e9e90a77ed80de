"""Holds: rooms with their marks, the air and weather that they take, their stoves, and the bounds of all."""

from stoke.errors import Full, NoHold, NoMarks, NoRoom, NoShare, NoSky, NoStove, TooMany
from stoke.ratios import NOUGHT, WHOLE, minus, plus, under

MOST_ROOMS = 4
LEAST_MARKS = 2
MOST_MARKS = 7
MOST_BANDS = 400
MOST_BURNING = 4
MOST_CAP = 30
MOST_LOAD = 30
MOST_WOOD = 9
MOST_STAY = 3
MOST_FAILS = 3


def is_whole_upto(thing, greatest):
    # A truth is an int to Python, but no whole number here.
    if isinstance(thing, bool) or not isinstance(thing, int):
        return False
    return 0 <= thing <= greatest


def is_rising(marks):
    return all([under(low, high) for low, high in zip(marks, marks[1:])])


def bands_together(rows):
    product = 1
    for marks in rows:
        product = product * (len(marks) - 1)
    return product


# Rows of marks, skies and stoves are kept as tuples, so that a hold like another one may share them.
class Hold:
    def __init__(self, most=4, cap=0, load=0):
        if not is_whole_upto(most, MOST_BURNING):
            raise NoHold("most is no whole number from 0 to 4")
        if not is_whole_upto(cap, MOST_CAP):
            raise NoHold("cap is no whole number from 0 to 30")
        if not is_whole_upto(load, MOST_LOAD):
            raise NoHold("load is no whole number from 0 to 30")
        self.most = most
        self.cap = cap
        self.load = load
        self.mark_rows = []
        self.flows = {}
        self.skies = []
        self.stoves = []

    def put_room(self, marks):
        if self.many() >= MOST_ROOMS:
            raise Full("there are four rooms")
        if not LEAST_MARKS <= len(marks) <= MOST_MARKS:
            raise NoMarks("there are fewer than two marks or more than seven")
        if not is_rising(marks):
            raise NoMarks("the marks do not rise")
        rows = self.mark_rows + [tuple(marks)]
        if bands_together(rows) > MOST_BANDS:
            raise TooMany("the bands of all rooms, multiplied, come to more than 400")
        self.mark_rows = rows
        self.skies.append((NOUGHT, NOUGHT, NOUGHT))
        self.stoves.append(None)
        return self.many() - 1

    def put_flow(self, into, of, share):
        self.look_for(into)
        self.look_for(of)
        if into == of:
            raise NoRoom(into)
        self.look_at_share(into, share, self.share(into, of))
        self.flows[(into, of)] = share

    def put_sky(self, room, share, low, high):
        self.look_for(room)
        if under(high, low):
            raise NoSky("the weather's high is less than its low")
        self.look_at_share(room, share, self.skies[room][0])
        self.skies[room] = (share, low, high)

    def put_stove(self, room, heat, wood=0, stay=0, fails=0):
        self.look_for(room)
        if under(heat, NOUGHT):
            raise NoStove("the heat is below nought")
        if not is_whole_upto(wood, MOST_WOOD):
            raise NoStove("wood is no whole number from 0 to 9")
        if not is_whole_upto(stay, MOST_STAY):
            raise NoStove("stay is no whole number from 0 to 3")
        if not is_whole_upto(fails, MOST_FAILS):
            raise NoStove("fails is no whole number from 0 to 3")
        self.stoves[room] = (heat, wood, stay, fails)

    def many(self):
        return len(self.mark_rows)

    def marks(self, room):
        self.look_for(room)
        return list(self.mark_rows[room])

    def share(self, into, of):
        self.look_for(into)
        self.look_for(of)
        if into == of:
            return self.own_share(into)
        return self.flows.get((into, of), NOUGHT)

    def sky(self, room):
        self.look_for(room)
        return self.skies[room]

    def stove(self, room):
        self.look_for(room)
        return self.stoves[room]

    def own_share(self, room):
        rest = minus(WHOLE, self.skies[room][0])
        for other in range(self.many()):
            rest = minus(rest, self.flows.get((room, other), NOUGHT))
        return rest

    def look_for(self, room):
        if not 0 <= room < self.many():
            raise NoRoom(room)

    # The former share gives way to the new one, so it is free to be taken again.
    def look_at_share(self, room, share, former):
        free = plus(self.own_share(room), former)
        if under(share, NOUGHT) or under(free, share):
            raise NoShare(room)


def hold_like(hold, most=None, cap=None, load=None):
    like = Hold(
        hold.most if most is None else most,
        hold.cap if cap is None else cap,
        hold.load if load is None else load,
    )
    like.mark_rows = list(hold.mark_rows)
    like.flows = dict(hold.flows)
    like.skies = list(hold.skies)
    like.stoves = list(hold.stoves)
    return like
