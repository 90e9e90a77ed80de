import inspect
import random
import unittest

from stoke.courses import order_at
from stoke.desk import Desk
from stoke.errors import (
    Full, NoBand, NoFailing, NoHold, NoKeeper, NoLine, NoMarks, NoName, NoOrder, NoRoom, NoShare, NoSky, NoState,
    NoStove, NoText, StokeError, TooMany, Twice,
)
from stoke.fates import fates_of
from stoke.games import ranks_of
from stoke.keepers import Clock, Either, Sills
from stoke.makers import made_keeper
from stoke.stoves import start_state
from stoke.texts import read_bits, read_hold, show_bits, show_hold
from stoke.walks import Walk
from tests.telling import parted_hold, plain_heeded, refused, small_hold, some_groups, some_turn

# A room of three bands that loses, in a turn without its stove, up to twelve; the stove holds it where it is.
FADING = ("bounds 4 9 1", "room hall 0 10 20 30", "sky hall 1/6 -60 -60", "stove hall 12 2 0 0")
THIRTY = "9" * 30


def desk_of(*lines):
    desk = Desk()
    for line in lines:
        desk.say(line)
    return desk


def answers(desk, lines):
    found = []
    for line in lines:
        try:
            found.append(desk.say(line))
        except StokeError as refusal:
            found.append(type(refusal).__name__)
    return found


class HoldTest(unittest.TestCase):
    def test_lines_of_a_hold(self):
        lines = FADING + ("room loft 0 1", "flow hall loft 1/6", "sky loft 0 1 2", "room hat 5 6", "stove hat 0 0 0 0")
        self.assertEqual(answers(Desk(), lines), ["ok"] * len(lines))

    def test_without_bounds(self):
        desk = desk_of("room a 0 1", "stove a 0 1 0 0", "start 0 0")
        self.assertEqual(answers(desk, ["rank", "start 0 1"]), ["kept", "NoState"])

    def test_desk_of_no_rooms(self):
        desk = Desk()
        self.assertEqual(desk.say("bounds 1 2 3"), "ok")
        for line, kind in (
            ("sky a 0 0 0", NoName), ("flow a b 0", NoName), ("stove a 0 0 0 0", NoName), ("room a 0", NoLine),
            ("", NoLine),
            ("bounds 5 0 0", NoHold), ("bounds 1 1", NoLine), ("bounds 1 1 x", NoText), ("room a 1 0", NoMarks),
        ):
            refused(self, kind, lambda: desk.say(line))
        self.assertEqual(desk.say("room a 0 1"), "ok")

    def test_bounds_at_any_time(self):
        desk = desk_of(*FADING, "clock k hall", "watch k", "start 2 9")
        self.assertEqual(desk.say("bounds 1 2 3"), "ok")
        # All names of rooms and keepers, the watch and the start are gone.
        self.assertEqual(answers(desk, ["room hall 0 1", "start 0 2", "rank"]), ["ok", "ok", "kept"])
        self.assertEqual(answers(desk, ["order", "watch k", "either k k k", "start 0 3"]), ["NoName"] * 3 + ["NoState"])
        self.assertEqual(answers(desk, ["clock k -", "watch k", "order"]), ["ok", "ok", "-"])
        desk.say("bounds 4 0 0")
        self.assertEqual(answers(desk, ["sky hall 0 0 0", "room hall 0 1", "rank"]), ["NoName", "ok", "NoState"])

    def test_other_lines_take_the_start_away(self):
        for line in ("room b 0 1", "sky hall 1/6 -60 -60", "stove hall 12 2 0 0"):
            desk = desk_of(*FADING, "clock k hall -", "watch k", "start 2 9", "turn - 2", "turn - 1")
            self.assertEqual(desk.say("order"), "hall")
            self.assertEqual(desk.say(line), "ok")
            self.assertEqual(answers(desk, ["rank", "order", "fate", "made m"]), ["NoState"] * 4)
            # Keepers and the watch stay.
            desk.say("start 2 0 9" if line.startswith("room") else "start 2 9")
            self.assertEqual(desk.say("order"), "hall")
            self.assertEqual(desk.say("watch k"), "ok")
        desk = desk_of(*FADING, "room b 0 1", "clock k hall", "watch k", "start 2 0 9")
        self.assertEqual(desk.say("flow hall b 0"), "ok")
        self.assertEqual(answers(desk, ["rank", "start 2 0 9", "order"]), ["NoState", "ok", "hall"])

    def test_refused_lines_of_a_hold_take_nothing_away(self):
        desk = desk_of(*FADING, "clock k hall", "watch k", "start 2 9")
        for line, kind in (
            ("room hall 0 1", Twice), ("room b 1 0", NoMarks), ("sky hall 2 0 0", NoShare), ("sky hall 0 1 0", NoSky),
            ("stove hall -1 0 0 0", NoStove), ("flow hall hall 0", NoRoom), ("flow hall b 0", NoName),
            ("bounds 5 5 5", NoHold), ("bounds 1 1 01", NoText), ("stove hall 1 0 0 x", NoText), ("room b", NoLine),
        ):
            with self.subTest(line=line):
                refused(self, kind, lambda: desk.say(line))
                self.assertEqual(answers(desk, ["order", "rank"]), ["hall", "ill 10"])

    def test_new_sky_flow_and_stove(self):
        desk = desk_of(*FADING, "clock k hall", "watch k", "start 2 9")
        asked = ["start 2 9", "order", "rank", "fate"]
        self.assertEqual(answers(desk, asked), ["ok", "hall", "ill 10", "ill 9"])
        desk.say("stove hall 12 1 0 0")
        self.assertEqual(answers(desk, asked), ["ok", "hall", "kept", "kept"])
        desk.say("sky hall 1/6 -60 0")
        self.assertEqual(answers(desk, asked), ["ok", "hall", "kept", "ill 1"])
        desk.say("stove hall 12 9 0 0")
        self.assertEqual(answers(desk, asked), ["ok", "hall", "ill 3", "ill 1"])
        # Of another room it takes what is warm enough.
        desk.say("room loft 29 30")
        desk.say("flow hall loft 5/6")
        asked[0] = "start 2 0 9"
        self.assertEqual(answers(desk, asked), ["ok", "hall", "kept", "ill 1"])


class StartTest(unittest.TestCase):
    def test_heaps_and_bands(self):
        desk = desk_of(*FADING)
        for line in ("start 0 0", "start 2 0", "start 0 9", "start 2 9"):
            self.assertEqual(desk.say(line), "ok")
        for line in ("start 3 0", "start 0 10", f"start {THIRTY} 0", f"start 0 {THIRTY}"):
            refused(self, NoState, lambda: desk.say(line))

    def test_begins_anew(self):
        desk = desk_of(*FADING, "clock k hall - -", "watch k", "start 2 9", "turn - 2")
        self.assertEqual(desk.say("order"), "-")
        desk.say("start 1 9")
        # The watch's mind is 0 again.
        self.assertEqual(desk.say("order"), "hall")

    def test_a_refused_start_leaves_the_walk(self):
        desk = desk_of(*FADING, "clock k hall -", "watch k", "start 2 9", "turn - 2")
        for line in ("start 3 9", "start 2", "start x 9", "start 2 9 9"):
            self.assertIn(answers(desk, [line])[0], ("NoState", "NoLine", "NoText"))
            self.assertEqual(desk.say("order"), "-")
        self.assertEqual(answers(desk, ["turn - 1", "order"]), ["-", "hall"])


class KeeperTest(unittest.TestCase):
    ROOMS = (
        "bounds 4 30 30", "room a 0 1 2 3", "room ab 0 1 2 3", "stove a 0 1 0 0", "stove ab 0 1 0 0", "start 1 2 30",
    )

    def order(self, *lines):
        return desk_of(*self.ROOMS, *lines, "watch k").say("order")

    def test_sills(self):
        for words, wanted in (
            ("a 2 2", "a"), ("a 1 2", "-"), ("ab 3 3", "ab"), ("a 2 3 ab 3 9", "a+ab"), ("ab 3 3 a 0 0", "ab"),
            (f"a {THIRTY} {THIRTY}", "a"),
        ):
            self.assertEqual(self.order("sills k " + words), wanted)

    def test_sills_high(self):
        # Once it burns it goes on until the band is high's.
        desk = desk_of(*self.ROOMS, "sills k a 2 3", "watch k", "turn - 1 1")
        self.assertEqual(desk.say("order"), "a")
        self.assertEqual(answers(desk_of(*self.ROOMS, "sills k a 2 3", "watch k"), ["turn - 1 2", "order"]), ["a", "a"])
        desk = desk_of(*self.ROOMS, "sills k a 1 2", "watch k")
        self.assertEqual(answers(desk, ["order", "start 0 0 30", "order"]), ["-", "ok", "a"])

    def test_a_room_told_twice_in_sills(self):
        self.assertEqual(self.order("sills k a 0 0 a 2 2"), "a")
        self.assertEqual(self.order("sills k a 2 2 ab 0 0 a 0 0"), "-")
        # The last one holds, whatever the others tell.
        self.assertEqual(self.order("sills k a 9 0 a 2 2"), "a")
        desk = desk_of(*self.ROOMS)
        refused(self, NoKeeper, lambda: desk.say("sills k a 2 2 a 9 0"))
        refused(self, NoKeeper, lambda: desk.say("sills k a 1 0"))
        refused(self, NoText, lambda: desk.say("sills k a x 0 a 2 2"))

    def test_clock(self):
        desk = desk_of(*self.ROOMS, "clock k a - a+ab", "watch k")
        found = []
        for bands in ("1 1", "1 1", "1 1", "1 1"):
            found.append(desk.say("order"))
            self.assertEqual(desk.say("turn - " + bands), found[-1])
        self.assertEqual(found, ["a", "-", "a+ab", "a"])

    def test_clock_of_twenty_four_wishes(self):
        desk = desk_of(*self.ROOMS)
        self.assertEqual(desk.say("clock k" + " a" * 24), "ok")
        refused(self, NoKeeper, lambda: desk.say("clock k" + " a" * 25))
        refused(self, NoText, lambda: desk.say("clock k" + " a" * 25 + " b"))

    def test_either(self):
        self.assertEqual(self.order("clock x a", "sills y ab 3 3", "either k x y"), "a+ab")
        self.assertEqual(self.order("clock k a", "either k k k"), "a")
        desk = desk_of(*self.ROOMS, "clock x a -", "clock y ab - -", "either k x y", "watch k")
        found = []
        for _ in range(6):
            found.append(desk.say("turn - 1 1"))
        self.assertEqual(found, ["a+ab", "-", "a", "ab", "a", "-"])

    def test_too_many(self):
        desk = desk_of(*self.ROOMS, "clock x a a a a a a", "clock y" + " a" * 10, "clock z" + " a" * 11)
        self.assertEqual(desk.say("either k x y"), "ok")
        refused(self, TooMany, lambda: desk.say("either k x z"))
        desk = desk_of(*self.ROOMS, "clock k a", "either k k k", "either k k k", "either k k k")
        # A size of 15 by now.
        refused(self, TooMany, lambda: desk.say("either k k k"))
        self.assertEqual(answers(desk, ["watch k", "order"]), ["ok", "a"])

    def test_made(self):
        desk = desk_of(*FADING, "start 0 9", "made k", "watch k")
        self.assertEqual(answers(desk, ["order", "rank", "fate"]), ["hall", "ill 9", "ill 9"])
        desk = desk_of(*FADING, "stove hall 12 1 0 0", "start 0 1", "made k", "watch k")
        self.assertEqual(answers(desk, ["order", "rank", "fate"]), ["hall", "kept", "kept"])

    def test_made_for_the_state_of_the_walk(self):
        lines = FADING + ("stove hall 12 1 0 0", "clock c - -", "watch c", "start 2 0", "turn - 1")
        desk = desk_of(*lines, "made k", "watch k")
        hold, names = read_hold(list(FADING[:3]) + ["stove hall 12 1 0 0"])
        keeper = made_keeper(hold, [((1,), 0, (0,), (0,), 1)])
        self.assertEqual(desk.say("order"), show_bits(keeper.wish(0, ((1,), 0, (0,), (0,), 1)), names))
        self.assertEqual(desk.say("fate"), "kept")

    def test_a_room_and_a_keeper_of_one_name(self):
        desk = desk_of(*self.ROOMS, "clock a ab", "clock ab a", "watch a")
        self.assertEqual(desk.say("order"), "ab")
        self.assertEqual(answers(desk, ["either a a ab", "watch a", "order"]), ["ok", "ok", "a+ab"])
        self.assertEqual(answers(desk, ["clock room a", "watch room", "order"]), ["ok", "ok", "a"])

    def test_a_name_told_anew(self):
        desk = desk_of(*self.ROOMS, "clock k a a -", "watch k", "clock x ab", "either e k x", "turn - 1 1")
        # The old one stays what it was, in the watch with its mind, and in what was put together of it.
        self.assertEqual(desk.say("clock k -"), "ok")
        self.assertEqual(answers(desk, ["order", "turn - 1 1", "order", "turn - 1 1"]), ["a", "a", "-", "-"])
        self.assertEqual(answers(desk, ["watch e", "order", "watch k", "order"]), ["ok", "a+ab", "ok", "-"])

    def test_a_refused_keeper_takes_no_name(self):
        desk = desk_of(*self.ROOMS, "clock k a", "watch k")
        for line in ("clock k x", "sills k a 1 0", "either k k x", "clock k", "clock z b", "sills z a 1 0"):
            self.assertIn(answers(desk, [line])[0], ("NoText", "NoKeeper", "NoName", "NoLine"))
            self.assertEqual(answers(desk, ["watch k", "order", "watch z"]), ["ok", "a", "NoName"])

    def test_watch_begins_with_mind_nought(self):
        desk = desk_of(*self.ROOMS, "clock k a - -", "watch k", "turn - 1 1")
        self.assertEqual(answers(desk, ["order", "watch k", "order"]), ["-", "ok", "a"])

    def test_other_lines_do_not_move_the_mind(self):
        desk = desk_of(*self.ROOMS, "clock k a - ab", "watch k", "turn - 1 1")
        for line in ("order", "rank", "fate", "clock x a", "sills x a 1 1", "either x k k", "made x"):
            desk.say(line)
            self.assertEqual(desk.say("order"), "-")
        self.assertEqual(answers(desk, ["turn - 1 1", "order"]), ["-", "ab"])


class TurnTest(unittest.TestCase):
    FAILING = (
        "bounds 4 9 9", "room a 0 10 20", "room b 0 10", "sky a 1/6 -60 -60", "stove a 12 1 1 1", "stove b 0 1 0 0",
    )

    def test_burning_behind(self):
        desk = desk_of(*self.FAILING, "clock k a+b", "watch k", "start 1 0 9")
        self.assertEqual(desk.say("turn a 0 0"), "b")
        self.assertEqual(answers(desk, ["turn a 0 0", "turn - 0 0"]), ["NoFailing", "a+b"])

    def test_refusals_of_the_walk(self):
        desk = desk_of(*self.FAILING, "clock k a+b", "watch k", "start 1 0 9")
        for line, kind in (
            ("turn b 0 0", NoFailing), ("turn a+b 9 0", NoFailing), ("turn a 1 0", NoBand), ("turn - 0 1", NoBand),
            (f"turn - {THIRTY} 0", NoBand), ("turn b 9 9", NoFailing),
        ):
            with self.subTest(line=line):
                refused(self, kind, lambda: desk.say(line))
        with self.assertRaises(NoBand) as caught:
            desk_of(*self.FAILING, "clock k a", "watch k", "start 1 0 9", "turn - 1 0").say("turn - 1 1")
        self.assertEqual((caught.exception.room, caught.exception.turn), (1, 1))

    def test_no_order(self):
        desk = desk_of("bounds 4 1 0", "room a 0 10", "stove a 0 1 1 1", "clock k a", "watch k", "start 0 1")
        self.assertEqual(desk.say("turn - 0"), "a")
        # It has to go on, and there is no wood.
        for line in ("turn - 0", "turn a 9", "order"):
            refused(self, NoOrder, lambda: desk.say(line))
        self.assertEqual(answers(desk, ["rank", "fate"]), ["ill 0", "ill 0"])
        for line, kind in (("turn x 0", NoText), ("turn - x", NoText), ("turn -", NoLine), ("turn", NoLine)):
            refused(self, kind, lambda: desk.say(line))
        # A made keeper there has no row at all.
        self.assertEqual(answers(desk, ["made k", "watch k", "order"]), ["ok", "ok", "NoOrder"])

    def test_unsafe_turns_may_be_gone(self):
        desk = desk_of(*FADING, "clock k -", "watch k", "start 0 0")
        self.assertEqual(answers(desk, ["rank", "fate", "turn - 0"]), ["ill 1", "ill 1", "NoBand"])
        desk = desk_of(*FADING, "sky hall 1/6 -60 0", "clock k -", "watch k", "start 0 0")
        self.assertEqual(answers(desk, ["fate", "turn - 0", "turn - 0"]), ["ill 1", "-", "-"])

    def test_refused_turns_leave_the_mind(self):
        desk = desk_of(*self.FAILING, "clock k a+b - a", "watch k", "start 1 0 9")
        for line in ("turn b 0 0", "turn - 0 9", "turn - 0", "turn x 0 0", "turn a 9 0"):
            answers(desk, [line])
            self.assertEqual(desk.say("order"), "a+b")
        self.assertEqual(desk.say("turn - 1 0"), "a+b")
        self.assertEqual(desk.say("order"), "a")


class RefusalTest(unittest.TestCase):
    ROOMS = ("room a 0 10 20", "room ab 0 10", "stove a 0 0 0 1", "stove ab 0 0 0 0", "clock k a -", "clock x ab")

    def test_no_line(self):
        desk = desk_of(*self.ROOMS, "watch k", "start 1 0 0")
        for line in (
            "", " ", "x", "start", "start 0", "start 0 0", "start 0 0 0 0", "start 0 0 0 ", " start 0 0 0",
            "start  0 0 0",
            "sills", "sills k", "sills k a", "sills k a 0", "sills k a 0 0 a", "sills k a 0 0 a 0", "sills k a 0 0 ",
            "clock", "clock k", "either", "either k", "either k x", "either k x x x", "either k x x ", "made",
            "made k k",
            "made k ", "watch", "watch k k", "watch k ", "turn", "turn -", "turn - 0", "turn - 0 0 0", "turn - 0 0 ",
            "order ", "order k", "rank ", "rank 0", "fate k", "fate ", " order", "Order", "ORDER", "keeper k",
            "table k",
            "below k a 1 x x", "leave - 0 0", "stop", "bounds", "bounds 1 1", "room", "room c 0", "sky a 0 0",
            "stove a 1",
            "flow a ab", "wait", "orders", "sill k a 0 0",
        ):
            with self.subTest(line=line):
                refused(self, NoLine, lambda: desk.say(line))

    def test_no_line_ahead_of_all_else(self):
        for line in ("turn x", "made K k", "order k", "rank -", "fate -", "turn - 0", "made", "watch", "watch Z Z"):
            refused(self, NoLine, lambda: desk_of(*self.ROOMS).say(line))

    def test_no_start(self):
        for desk in (desk_of(*self.ROOMS), desk_of(*self.ROOMS, "watch k")):
            for line in ("made k", "made K", "turn - 0 0", "turn x y z", "turn a+b x y", "order", "rank", "fate"):
                with self.subTest(line=line):
                    refused(self, NoState, lambda: desk.say(line))

    def test_no_watch(self):
        desk = desk_of(*self.ROOMS, "start 1 0 0")
        for line in ("turn - 0 0", "turn x y z", "turn a+b x y", "order", "fate"):
            with self.subTest(line=line):
                refused(self, NoName, lambda: desk.say(line))
        self.assertEqual(answers(desk, ["rank", "made k"]), ["kept", "ok"])

    def test_word_by_word(self):
        desk = desk_of(*self.ROOMS, "watch k", "start 1 0 0")
        for line, kind in (
            ("sills K a x y", NoName), ("sills k b x y", NoName), ("sills k a x y", NoText), ("sills k a 0 y", NoText),
            ("sills k a 0 0 b x x", NoName), ("sills k a x 0 b 0 0", NoText), ("sills k a 9 0 b 0 0", NoName),
            ("sills k a 9 0", NoKeeper), ("sills k a -1 0", NoText), ("sills k a 0 1/2", NoText),
            ("sills k k 0 0", NoName),
            ("clock K b", NoName), ("clock k b", NoText), ("clock k a b", NoText), ("clock k ab+a", NoText),
            ("clock k a+a", NoText), ("clock k a+", NoText), ("clock k  a", NoText), ("clock k a ", NoText),
            ("clock k +a", NoText), ("clock k a+b", NoText), ("clock k a -- a", NoText), ("clock k A", NoText),
            ("either K y z", NoName), ("either k y x", NoName), ("either k x y", NoName), ("either k x a", NoName),
            ("either k1 x x", NoName), ("made K", NoName), ("made abcdefghi", NoName), ("made a1", NoName),
            ("made ", NoName),
            ("watch y", NoName), ("watch K", NoName), ("watch ", NoName), ("watch a", NoName),
            ("turn x 0 0", NoText), ("turn - x 0", NoText), ("turn - 0 x", NoText), ("turn  0 0", NoText),
            ("turn ab+a 0 0", NoText), ("turn - 00 0", NoText), ("turn - -1 0", NoText), ("turn - 1/2 0", NoText),
            ("turn ab x 0", NoText), ("turn - " + "1" * 31 + " 0", NoText), ("start x 0 0", NoText),
            ("start 0 x 0", NoText),
            ("start 0 0 x", NoText), ("start 9 9 x", NoText), ("start -1 0 0", NoText), ("start 0 0 00", NoText),
            ("start  0 0", NoText), ("sills abcdefghi a 0 0", NoName), ("sills  a 0 0", NoName), ("clock  a", NoName),
        ):
            with self.subTest(line=line):
                refused(self, kind, lambda: desk.say(line))

    def test_new_names(self):
        desk = desk_of(*self.ROOMS, "start 1 0 0")
        for name in ("a", "z", "abcdefgh", "k", "order", "ab"):
            lines = [f"sills {name} a 0 0", f"clock {name} -", f"either {name} x x", f"made {name}", f"watch {name}"]
            self.assertEqual(answers(desk, lines), ["ok"] * 5)

    def test_full_and_too_many_rooms(self):
        desk = desk_of("room a 0 1", "room b 0 1", "room c 0 1", "room d 0 1")
        refused(self, Full, lambda: desk.say("room e 0 1"))
        refused(self, Twice, lambda: desk.say("room d 0 1"))
        desk = desk_of(*[f"room {name} 0 1 2 3 4 5 6" for name in "abc"])
        refused(self, TooMany, lambda: desk.say("room d 0 1 2"))

    def test_too_many_states(self):
        lines = ["bounds 4 5 1"]
        for name, bands in zip("abcd", (4, 4, 5, 5)):
            marks = " ".join(str(mark) for mark in range(bands + 1))
            lines.extend([f"room {name} {marks}", f"sky {name} 1 0 {bands}"])
        desk = desk_of(*lines, "clock k -", "watch k", "start 0 0 0 0 0")
        for line in ("rank", "fate", "made m"):
            refused(self, TooMany, lambda: desk.say(line))
        self.assertEqual(answers(desk, ["watch m", "order", "turn - 3 3 4 4"]), ["NoName", "-", "-"])
        self.assertEqual(answers(desk, ["start 0 0 0 0 5", "rank", "fate"]), ["ok", "kept", "kept"])

    # What is refused leaves the desk as it was: a desk that was not told it answers all later lines alike.
    def test_refused_lines_leave_the_desk(self):
        ahead = self.ROOMS + ("either e k x", "watch e", "start 1 0 0", "turn a 0 0")
        later = [
            "order", "rank", "fate", "turn - 0 0", "order", "watch k", "turn - 0 0", "order", "watch e", "order",
            "made m", "watch m", "order", "fate", "watch z", "room ab 0 1", "room b 0 1", "rank", "start 1 0 0 0",
            "order",
        ]
        wanted = answers(desk_of(*ahead), later)
        wrong = (
            "x", "order k", "bounds 5 0 0", "bounds 1 1 x", "room a 0 1", "room b 1 0", "room z 0 x", "sky a 2 0 0",
            "sky a 1 1 0", "flow a a 0", "flow a ab 2", "stove a -1 0 0 0", "stove a 1 0 0 9", "start 9 0 0",
            "start 0 0 1",
            "start 0 x 0", "sills k a 1 0", "sills z a x 0", "clock k b", "clock z" + " a" * 25, "either k k z",
            "watch z",
            "turn ab 0 0", "turn - 0 1", "turn a 9 9", "turn a+ab 0 0", "made Z",
        )
        for line in wrong:
            with self.subTest(line=line):
                desk = desk_of(*ahead)
                with self.assertRaises(StokeError):
                    desk.say(line)
                self.assertEqual(answers(desk, later), wanted)


# A desk's answers by the functions alone: the hold is read anew from its lines at each asking.
class Mirror:
    def __init__(self):
        self.lines = []
        self.keepers = {}
        self.watch = self.state = None
        self.mind = 0

    def hold(self):
        return read_hold(self.lines)[0]

    def names(self):
        return read_hold(self.lines)[1]

    def say(self, line):
        word, *words = line.split(" ")
        return getattr(self, "say_" + word, self.say_line)(word, *words)

    def say_line(self, *words):
        self.lines.append(" ".join(words))
        self.state = None
        return "ok"

    def say_bounds(self, *words):
        self.__init__()
        self.lines = [" ".join(words)]
        return "ok"

    def say_start(self, _, *numbers):
        numbers = [int(number) for number in numbers]
        self.state = start_state(self.hold(), numbers[:-1], numbers[-1])
        self.mind = 0
        return "ok"

    def say_sills(self, _, name, *words):
        rows = zip(words[::3], words[1::3], words[2::3])
        self.keepers[name] = Sills({self.names().index(room): (int(low), int(high)) for room, low, high in rows})
        return "ok"

    def say_clock(self, _, name, *wishes):
        self.keepers[name] = Clock([read_bits(wish, self.names()) for wish in wishes])
        return "ok"

    def say_either(self, _, name, one, other):
        self.keepers[name] = Either(self.keepers[one], self.keepers[other])
        return "ok"

    def say_made(self, _, name):
        self.keepers[name] = made_keeper(self.hold(), [self.state])
        return "ok"

    def say_watch(self, _, name):
        self.watch = self.keepers[name]
        self.mind = 0
        return "ok"

    def order(self):
        order = order_at(self.hold(), self.watch, (self.state, self.mind))
        if order is None:
            raise NoOrder
        return order

    def say_turn(self, _, out, *bands):
        walk = Walk(self.hold(), self.state)
        walk.go(self.order(), read_bits(out, self.names()), [int(band) for band in bands])
        self.mind = self.watch.after(self.mind, self.state)
        self.state = walk.state()
        return show_bits(self.state[1], self.names())

    def say_order(self, _):
        return show_bits(self.order(), self.names())

    def end(self, turns):
        return "kept" if turns is None else "ill " + str(turns)

    def say_rank(self, _):
        return self.end(ranks_of(self.hold(), [self.state])[self.state])

    def say_fate(self, _):
        post = (self.state, self.mind)
        return self.end(fates_of(self.hold(), self.watch, [post])[post])


class SomeTest(unittest.TestCase):
    NAMES = ["a", "ab", "b", "hall"]

    def some_bits(self, source, hold):
        return show_bits(source.randrange(2 ** hold.many()), self.NAMES)

    def some_keeper_line(self, source, hold, keepers):
        name = source.choice("kxyz")
        kind = source.randrange(4)
        if kind == 0:
            wishes = [self.some_bits(source, hold) for _ in range(source.randint(1, 4))]
            return " ".join(["clock", name] + wishes)
        if kind == 1:
            words = ["sills", name]
            for _ in range(source.randint(1, 3)):
                low = source.randint(0, 2)
                words += [self.NAMES[source.randrange(hold.many())], str(low), str(low + source.randint(0, 2))]
            return " ".join(words)
        if kind == 2:
            return f"either {name} {source.choice(keepers)} {source.choice(keepers)}"
        return f"made {name}"

    def some_change(self, source, hold):
        lines = show_hold(hold, self.NAMES)
        return source.choice([line for line in lines if line.split(" ")[0] in ("sky", "flow", "stove")])

    def some_turn_line(self, source, hold, mirror):
        order = plain_heeded(hold, mirror.state, mirror.watch.wish(mirror.mind, mirror.state))
        if order is None or source.random() < 0.1:
            bands = [source.randrange(3) for _ in range(hold.many())]
            return " ".join(["turn", self.some_bits(source, hold)] + [str(band) for band in bands])
        out, _, bands = some_turn(source, hold, mirror.state, order)
        if bands is None:
            return "fate"
        return " ".join(["turn", show_bits(out, self.NAMES)] + [str(band) for band in bands])

    def start_line(self, source, hold):
        bands = [source.randrange(len(hold.marks(room)) - 1) for room in range(hold.many())]
        return " ".join(["start"] + [str(number) for number in bands + [source.randint(0, hold.cap)]])

    def next_line(self, source, mirror):
        hold = mirror.hold()
        if mirror.state is None:
            return self.start_line(source, hold)
        kind = source.random()
        if kind < 0.5:
            return self.some_turn_line(source, hold, mirror)
        if kind < 0.6:
            return self.some_keeper_line(source, hold, sorted(mirror.keepers))
        if kind < 0.65:
            return "watch " + source.choice(sorted(mirror.keepers))
        if kind < 0.69:
            return self.some_change(source, hold)
        if kind < 0.71:
            return self.start_line(source, hold)
        return source.choice(("order", "rank", "fate"))

    def test_desk_answers_what_the_functions_tell(self):
        source = random.Random(1)
        seen = {}
        for _ in range(40):
            hold = small_hold(source, most_rooms=3)
            desk = Desk()
            mirror = Mirror()
            lines = show_hold(hold, self.NAMES[:hold.many()]) + ["clock k -", "watch k"]
            self.assertEqual(answers(desk, lines), answers(mirror, lines))
            for _ in range(60):
                line = self.next_line(source, mirror)
                found = answers(desk, [line])
                self.assertEqual(found, answers(mirror, [line]), (lines, line))
                lines.append(line)
                key = (line.split(" ")[0], found[0].split(" ")[0] if line in ("rank", "fate") else "")
                seen[key] = seen.get(key, 0) + 1
        for key in (("turn", ""), ("order", ""), ("rank", "kept"), ("rank", "ill"), ("fate", "kept"), ("fate", "ill")):
            self.assertGreater(seen[key], 20, seen)

    # Point 4: from a kept start the made keeper keeps every room, whatever is drawn.
    def test_made_keeper_at_a_desk(self):
        source = random.Random(2)
        kept = 0
        while kept < 25:
            if source.random() < 0.5:
                hold = small_hold(source, most_rooms=3)
            else:
                hold = parted_hold(source, some_groups(source, 2), most_wood=2, cap=4, load=source.randint(0, 4))
            names = self.NAMES[:hold.many()]
            start = self.start_line(source, hold)
            desk = desk_of(*show_hold(hold, names), start)
            if answers(desk, ["rank"]) != ["kept"]:
                continue
            kept += 1
            self.assertEqual(answers(desk, ["made k", "watch k", "fate"]), ["ok", "ok", "kept"])
            self.keep(source, hold, names, desk, start)

    def keep(self, source, hold, names, desk, start):
        numbers = [int(word) for word in start.split(" ")[1:]]
        walk = Walk(hold, start_state(hold, numbers[:-1], numbers[-1]))
        for _ in range(25):
            order = read_bits(desk.say("order"), names)
            out, warmths, bands = some_turn(source, hold, walk.state(), order)
            self.assertIsNotNone(bands)
            walk.go(order, out, bands, warmths)
            answer = desk.say(" ".join(["turn", show_bits(out, names)] + [str(band) for band in bands]))
            self.assertEqual(answer, show_bits(walk.state()[1], names))
        self.assertEqual(answers(desk, ["rank", "fate"]), ["kept", "kept"])

    def test_the_made_keeper_is_the_same_at_a_desk(self):
        source = random.Random(3)
        for _ in range(30):
            hold = small_hold(source, most_rooms=3)
            names = self.NAMES[:hold.many()]
            start = self.start_line(source, hold)
            numbers = [int(word) for word in start.split(" ")[1:]]
            state = start_state(hold, numbers[:-1], numbers[-1])
            try:
                keeper = made_keeper(hold, [state])
            except TooMany:
                continue
            desk = desk_of(*show_hold(hold, names), start, "made k", "watch k")
            order = order_at(hold, keeper, (state, 0))
            wanted = "NoOrder" if order is None else show_bits(order, names)
            self.assertEqual(answers(desk, ["order"]), [wanted])


class OwnTest(unittest.TestCase):
    def test_each_desk_by_itself(self):
        one = desk_of(*FADING, "clock k hall", "watch k", "start 2 9")
        other = Desk()
        lines = ["room hall 0 1", "start 0 0", "rank", "order"]
        self.assertEqual(answers(other, lines), ["ok", "ok", "kept", "NoName"])
        self.assertEqual(answers(one, ["order", "rank"]), ["hall", "ill 10"])


class InterfaceTest(unittest.TestCase):
    def test_names_and_arguments(self):
        self.assertEqual(list(inspect.signature(Desk).parameters), [])
        self.assertEqual(list(inspect.signature(Desk.say).parameters), ["self", "line"])

    def test_answers_are_texts(self):
        lines = FADING + ("clock k hall", "watch k", "start 2 9", "turn - 2", "order", "rank", "fate")
        for answer in [desk.say(line) for desk in [Desk()] for line in lines]:
            self.assertIs(type(answer), str)


if __name__ == "__main__":
    unittest.main()
