"""Keepers: by its mind and the state, each tells a wish and the mind that it has behind the turn."""

from stoke.bits import bits_of, has_room
from stoke.errors import NoKeeper, TooMany

MOST_WISHES = 24
MOST_MINDS = 60
MOST_SIZE = 15


class Keeper:
    def minds(self):
        return 1

    def size(self):
        return 1

    def wish(self, mind, state):
        return 0

    def after(self, mind, state):
        return 0


def look_at_size(keeper):
    if keeper.minds() > MOST_MINDS:
        raise TooMany("the keeper would have more than sixty minds")
    if keeper.size() > MOST_SIZE:
        raise TooMany("the keeper would have a size above fifteen")


class Ruled(Keeper):
    def __init__(self, rows):
        self.rows = list(rows)

    def wish(self, mind, state):
        return bits_of([room for room, condition in self.rows if condition(state)])


class Sills(Keeper):
    def __init__(self, sills):
        for low, high in sills.values():
            if low > high:
                raise NoKeeper("a sill's low is more than its high")
        self.sills = dict(sills)

    def wish(self, mind, state):
        return bits_of([room for room in self.sills if self.is_wished(room, state)])

    def is_wished(self, room, state):
        low, high = self.sills[room]
        return state[0][room] < (high if has_room(state[1], room) else low)


class Clock(Keeper):
    def __init__(self, wishes):
        if not 1 <= len(wishes) <= MOST_WISHES:
            raise NoKeeper("a clock has one to twenty-four wishes")
        self.wishes = list(wishes)

    def minds(self):
        return len(self.wishes)

    def wish(self, mind, state):
        return self.wishes[mind]

    def after(self, mind, state):
        return (mind + 1) % len(self.wishes)


class Table(Keeper):
    def __init__(self, rows, other=None):
        self.rows = dict(rows)
        self.other = other
        look_at_size(self)

    def minds(self):
        return 1 if self.other is None else self.other.minds()

    def size(self):
        return 1 if self.other is None else 1 + self.other.size()

    def wish(self, mind, state):
        if state in self.rows:
            return self.rows[state]
        return 0 if self.other is None else self.other.wish(mind, state)

    def after(self, mind, state):
        return 0 if self.other is None else self.other.after(mind, state)


class Pair(Keeper):
    def __init__(self, one, other):
        self.one = one
        self.other = other
        look_at_size(self)

    def minds(self):
        return self.one.minds() * self.other.minds()

    def size(self):
        return 1 + self.one.size() + self.other.size()

    def wish(self, mind, state):
        return self.wish_of_one(mind, state)

    def after(self, mind, state):
        ones, others = divmod(mind, self.other.minds())
        return self.one.after(ones, state) * self.other.minds() + self.other.after(others, state)

    def wish_of_one(self, mind, state):
        return self.one.wish(mind // self.other.minds(), state)

    def wish_of_other(self, mind, state):
        return self.other.wish(mind % self.other.minds(), state)


class Either(Pair):
    def wish(self, mind, state):
        return self.wish_of_one(mind, state) | self.wish_of_other(mind, state)


class Together(Pair):
    def wish(self, mind, state):
        return self.wish_of_one(mind, state) & self.wish_of_other(mind, state)


class Below(Pair):
    def __init__(self, room, band, one, other):
        Pair.__init__(self, one, other)
        self.room = room
        self.band = band

    def wish(self, mind, state):
        if state[0][self.room] < self.band:
            return self.wish_of_one(mind, state)
        return self.wish_of_other(mind, state)
