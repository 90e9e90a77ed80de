"""The desk: it takes lines, one at a time, and answers each."""

from stoke.courses import order_at
from stoke.errors import NoLine, NoName, NoOrder, NoState
from stoke.fates import fates_of
from stoke.games import rank_of
from stoke.holds import Hold
from stoke.keepers import Clock, Either, Sills
from stoke.makers import made_keeper
from stoke.stoves import start_state
from stoke.texts import (
    bounded_hold, is_line_of_hold, look_at_new_name, put_line, read_bits, read_whole, room_called, show_bits,
)
from stoke.walks import Walk

WORDS_OF_LINES = {"either": 4, "made": 2, "watch": 2, "order": 1, "rank": 1, "fate": 1}
KEEPER_WORDS = ("sills", "clock", "either", "made")
START_WORDS = ("made", "turn", "order", "rank", "fate")
WATCH_WORDS = ("turn", "order", "fate")


def is_line_of_desk(words, rooms):
    if words[0] in ("start", "turn"):
        return len(words) == rooms + 2
    if words[0] == "sills":
        return len(words) >= 5 and len(words) % 3 == 2
    if words[0] == "clock":
        return len(words) >= 3
    return WORDS_OF_LINES.get(words[0]) == len(words)


def show_end(turns):
    return "kept" if turns is None else f"ill {turns}"


# Each line is looked at and read as a whole before anything of the desk is changed by it.
class Desk:
    def __init__(self):
        self.begin(Hold())

    def begin(self, hold):
        self.hold = hold
        self.names = []
        self.keepers = {}
        self.watch = None
        self.mind = 0
        self.walk = None

    def say(self, line):
        words = line.split(" ")
        if not is_line_of_hold(words) and not is_line_of_desk(words, self.hold.many()):
            raise NoLine("that is no line of a desk")
        if words[0] in START_WORDS and self.walk is None:
            raise NoState("there is no start")
        if words[0] in WATCH_WORDS and self.watch is None:
            raise NoName("there is no watch")
        return self.answer(words)

    def answer(self, words):
        if words[0] == "turn":
            return self.go_by_watch(words)
        if words[0] == "order":
            return show_bits(self.order_of_watch(), self.names)
        if words[0] == "rank":
            return show_end(rank_of(self.hold, self.walk.state()))
        if words[0] == "fate":
            return show_end(fates_of(self.hold, self.watch, [self.post()])[self.post()])
        self.heed(words)
        return "ok"

    def heed(self, words):
        if words[0] == "bounds":
            self.begin(bounded_hold(words))
        elif words[0] == "start":
            self.begin_walk(words)
        elif words[0] == "watch":
            self.watch = self.keeper_called(words[1])
            self.mind = 0
        elif words[0] in KEEPER_WORDS:
            look_at_new_name(words[1])
            self.keepers[words[1]] = self.keeper_told(words)
        else:
            put_line(self.hold, self.names, words)
            self.walk = None

    def begin_walk(self, words):
        numbers = [read_whole(word) for word in words[1:]]
        self.walk = Walk(self.hold, start_state(self.hold, numbers[:-1], numbers[-1]))
        self.mind = 0

    def keeper_told(self, words):
        if words[0] == "sills":
            return Sills(self.sills_told(words))
        if words[0] == "clock":
            return Clock([read_bits(word, self.names) for word in words[2:]])
        if words[0] == "either":
            one, other = [self.keeper_called(word) for word in words[2:]]
            return Either(one, other)
        return made_keeper(self.hold, [self.walk.state()])

    def sills_told(self, words):
        sills = {}
        for place in range(2, len(words), 3):
            room = room_called(words[place], self.names)
            low, high = [read_whole(word) for word in words[place + 1:place + 3]]
            sills[room] = (low, high)
        return sills

    def keeper_called(self, word):
        if word not in self.keepers:
            raise NoName("no keeper has that name")
        return self.keepers[word]

    def go_by_watch(self, words):
        out = read_bits(words[1], self.names)
        bands = [read_whole(word) for word in words[2:]]
        order = self.order_of_watch()
        later = self.watch.after(self.mind, self.walk.state())
        self.walk.go(order, out, bands)
        self.mind = later
        return show_bits(self.walk.state()[1], self.names)

    def order_of_watch(self):
        order = order_at(self.hold, self.watch, self.post())
        if order is None:
            raise NoOrder("there is no order that the state allows")
        return order

    def post(self):
        return (self.walk.state(), self.mind)
