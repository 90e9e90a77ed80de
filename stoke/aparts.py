"""Keepers apart: each looks at its own rooms alone, and all of them together keep the hold."""

from stoke.bits import bits_of, has_room
from stoke.keepers import Keeper, look_at_size
from stoke.parts import portion


class Apart(Keeper):
    def __init__(self, rows):
        self.rows = [(tuple(rooms), keeper) for rooms, keeper in rows]
        look_at_size(self)

    def minds(self):
        many = 1
        for rooms, keeper in self.rows:
            many = many * keeper.minds()
        return many

    def size(self):
        return 1 + sum([keeper.size() for rooms, keeper in self.rows])

    def wish(self, mind, state):
        bits = 0
        for row, own in zip(self.rows, self.own_minds(mind)):
            rooms, keeper = row
            wished = keeper.wish(own, portion(state, rooms))
            bits = bits | bits_of([room for place, room in enumerate(rooms) if has_room(wished, place)])
        return bits

    def after(self, mind, state):
        later = 0
        weight = 1
        for row, own in zip(self.rows, self.own_minds(mind)):
            rooms, keeper = row
            later += weight * keeper.after(own, portion(state, rooms))
            weight = weight * keeper.minds()
        return later

    # The first keeper's mind counts by ones, the next one's by the number of the first one's minds, and so on.
    def own_minds(self, mind):
        own = []
        rest = mind
        for rooms, keeper in self.rows:
            own.append(rest % keeper.minds())
            rest = rest // keeper.minds()
        return own
