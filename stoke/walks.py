"""Walks: along turns as they come, each looked at before it is taken."""

from stoke.bits import has_room
from stoke.errors import Ended, NoBand, NoFailing, NoOrder, NotOut, NoTurn
from stoke.holds import hold_like
from stoke.ratios import under
from stoke.spans import span_of, touched, within
from stoke.stoves import behind_turn, look_at_state, may_fail, orders_of


class Walk:
    def __init__(self, hold, state):
        look_at_state(hold, state)
        # A walk goes by the hold as it was when it began.
        self.hold = hold_like(hold)
        self.place = state
        self.gone = 0
        self.ended = False

    def go(self, order, out, bands, warmths=None):
        self.look_at_order(order, out)
        for room in range(self.hold.many()):
            least, greatest = self.span(room, order & ~out)
            if warmths is not None:
                self.look_at_warmth(room, least, greatest, warmths[room])
                # Of a span the room is now just there, so the band must have that very warmth in it.
                least = warmths[room]
                greatest = warmths[room]
            if bands[room] not in touched(self.hold, room, least, greatest):
                raise NoBand(room, self.gone)
        self.place = (tuple(bands),) + behind_turn(self.hold, self.place, order, out)
        self.gone += 1

    def leave(self, order, out, warmths):
        self.look_at_order(order, out)
        for room, warmth in enumerate(warmths):
            least, greatest = self.span(room, order & ~out)
            self.look_at_warmth(room, least, greatest, warmth)
        if all([within(self.hold, room, warmth, warmth) for room, warmth in enumerate(warmths)]):
            raise NotOut("all warmths are between the bounds of their rooms")
        self.gone += 1
        self.ended = True

    def state(self):
        return self.place

    def turns(self):
        return self.gone

    def is_left(self):
        return self.ended

    def span(self, room, burning):
        return span_of(self.hold, room, self.place[0], has_room(burning, room))

    def look_at_order(self, order, out):
        if self.ended:
            raise Ended("the walk was left")
        if order not in orders_of(self.hold, self.place):
            raise NoOrder("the state does not allow that order")
        if out & ~may_fail(self.hold, self.place, order) != 0:
            raise NoFailing("a stove that may not fail is told to")

    def look_at_warmth(self, room, least, greatest, warmth):
        if under(warmth, least) or under(greatest, warmth):
            raise NoTurn(room, self.gone)
