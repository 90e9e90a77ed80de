"""Turns: what may come of an order, whatever air, weather, gauges and failing stoves do."""

from stoke.bits import has_room, subsets
from stoke.spans import span_of, touched, within
from stoke.stoves import failing, look_at_state, stoves_behind


def outcomes(hold, state, order):
    look_at_state(hold, state)
    return Reach(hold).states_behind(state, order)


def each_choice(rows):
    choices = [()]
    for row in rows:
        longer = []
        for choice in choices:
            longer.extend([choice + (band,) for band in row])
        choices = longer
    return choices


# It is made for one asking and then let go, so that no later change of the hold can go past it.
# Many states of one asking have the same bands: what they come to is reckoned once.
class Reach:
    def __init__(self, hold):
        self.hold = hold
        self.spreads = {}

    # None where the order is unsafe. Each out leaves other stoves burning, so no state comes twice.
    def states_behind(self, state, order):
        states = []
        for out in subsets(failing(self.hold, state, order)):
            burning = order & ~out
            rows = [self.spread(room, state[0], has_room(burning, room)) for room in range(self.hold.many())]
            if None in rows:
                return None
            stoves = stoves_behind(self.hold, state, order, out)
            states.extend([(bands,) + stoves for bands in each_choice(rows)])
        return states

    # The bands that the room may be in behind the turn; None where it may be out of its bounds.
    def spread(self, room, bands, fired):
        key = (room, bands, fired)
        if key not in self.spreads:
            least, greatest = span_of(self.hold, room, bands, fired)
            safe = within(self.hold, room, least, greatest)
            self.spreads[key] = touched(self.hold, room, least, greatest) if safe else None
        return self.spreads[key]
