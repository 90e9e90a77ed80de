import inspect
import random
import unittest
from fractions import Fraction

from stoke import texts
from stoke.errors import (
    Full, NoHold, NoLine, NoMarks, NoName, NoRoom, NoShare, NoSky, NoStove, NoText, TooMany, Twice,
)
from stoke.holds import Hold
from stoke.texts import (
    read_bits, read_fraction, read_hold, read_whole, show_bits, show_fraction, show_hold,
)
from tests.telling import filled_hold, pair, plain_bits, plain_rooms, refused, some_hold, told, whole_marks

THIRTY = 10 ** 30 - 1
NAMES = ["a", "ab", "abc", "b"]
MANY = ["room"[: 1 + place % 4] + "abcdefghij"[place // 4] for place in range(40)]


class WholeTest(unittest.TestCase):
    def test_read(self):
        for number in (0, 1, 9, 10, 11, 100, 1234567890, 10 ** 29, THIRTY):
            found = read_whole(str(number))
            self.assertEqual((found, type(found)), (number, int))

    def test_thirty_figures_and_one_more(self):
        self.assertEqual(read_whole("1" + "0" * 29), 10 ** 29)
        self.assertEqual(read_whole("9" * 30), THIRTY)
        refused(self, NoText, lambda: read_whole("1" + "0" * 30))
        refused(self, NoText, lambda: read_whole("9" * 1000))

    def test_no_text(self):
        for text in (
            "", " ", "00", "01", "007", "0" * 30, "-1", "-0", "+1", "1 ", " 1", "1_0", "1.0", "1e3", "0x1", "a", "1a",
            "a1", "1/1", "-", "+", "~", "True", "None", "1,0", "(1)",
        ):
            with self.subTest(text=text):
                refused(self, NoText, lambda: read_whole(text))


class FractionTest(unittest.TestCase):
    def test_both_ways(self):
        for one, text in (
            ((0, 1), "0"), ((1, 1), "1"), ((-1, 1), "-1"), ((1, 2), "1/2"), ((-1, 2), "-1/2"), ((10, 3), "10/3"),
            ((-22, 7), "-22/7"), ((THIRTY, 1), "9" * 30), ((-THIRTY, 1), "-" + "9" * 30),
            ((1, THIRTY), "1/" + "9" * 30), ((THIRTY, 10 ** 29), "9" * 30 + "/1" + "0" * 29),
            ((-THIRTY, 10 ** 29), "-" + "9" * 30 + "/1" + "0" * 29),
        ):
            with self.subTest(text=text):
                self.assertEqual(show_fraction(one), text)
                self.assertEqual(read_fraction(text), one)
                self.assertIs(type(read_fraction(text)), tuple)

    def test_no_text(self):
        for text in (
            "", "-", "/", "-0", "-0/1", "0/1", "0/2", "0/0", "1/0", "1/1", "-1/1", "2/4", "-2/4", "4/2", "6/4", "3/3",
            "1/", "/2", "-/2", "1/-2", "-1/-2", "--1", "+1", "+1/2", "01", "-01", "1/02", "01/2", "1/2/3", "1//2", " 1",
            "1 ", "1 /2", "1/ 2", "1.5", "1e2", "a", "a/b", "1/a", "1:2", "-00", "00", "1/00", "0/", "0/3",
            "1" + "0" * 30, "-1" + "0" * 30, "1/1" + "0" * 30, "1" * 31 + "/2",
        ):
            with self.subTest(text=text):
                refused(self, NoText, lambda: read_fraction(text))

    def test_not_in_lowest_terms(self):
        great = 10 ** 14 + 31
        refused(self, NoText, lambda: read_fraction(f"{3 * great}/{7 * great}"))
        self.assertEqual(read_fraction(f"{3 * great}/{7 * great + 2}"), (3 * great, 7 * great + 2))

    def test_more_figures_are_shown(self):
        self.assertEqual(show_fraction((10 ** 399, 1)), "1" + "0" * 399)
        self.assertEqual(show_fraction((-(10 ** 399), 10 ** 399 - 1)), "-1" + "0" * 399 + "/" + "9" * 399)

    def test_some(self):
        source = random.Random(1)
        for _ in range(300):
            figures = source.choice((1, 2, 5, 15, 29))
            one = Fraction(source.randint(-(10 ** figures), 10 ** figures), source.randint(1, 10 ** figures))
            text = show_fraction(pair(one))
            self.assertEqual(text, str(one))
            self.assertEqual(read_fraction(text), pair(one))


class BitsTest(unittest.TestCase):
    def test_both_ways(self):
        for bits, text in (
            (0, "-"), (1, "a"), (2, "ab"), (4, "abc"), (8, "b"), (3, "a+ab"), (5, "a+abc"), (9, "a+b"), (6, "ab+abc"),
            (15, "a+ab+abc+b"),
        ):
            with self.subTest(text=text):
                self.assertEqual(show_bits(bits, NAMES), text)
                self.assertEqual(read_bits(text, NAMES), bits)
                self.assertIs(type(read_bits(text, NAMES)), int)

    def test_order_of_the_list(self):
        # It is the list's order, not that of letters.
        self.assertEqual(read_bits("b+a", ["b", "a"]), 3)
        self.assertEqual(show_bits(3, ["b", "a"]), "b+a")
        refused(self, NoText, lambda: read_bits("a+b", ["b", "a"]))

    def test_no_text(self):
        for text in (
            "", "+", "a+", "+a", "a++b", "ab+a", "b+a", "a+a", "a+ab+a", "b+b", "c", "a+c", "aa", "abcd", "A", "a b",
            "a+b ", " a", "a +b", "-+a", "a+-", "--", "0", "1", "a,b", "a-b", "a+ab+abc+b+a", " ", "ab+abc+a",
        ):
            with self.subTest(text=text):
                refused(self, NoText, lambda: read_bits(text, NAMES))

    def test_of_no_names(self):
        self.assertEqual(read_bits("-", []), 0)
        self.assertEqual(show_bits(0, []), "-")
        for text in ("", "a", "+"):
            refused(self, NoText, lambda: read_bits(text, []))

    def test_of_many_names(self):
        source = random.Random(2)
        self.assertEqual(len(set(MANY)), 40)
        for _ in range(100):
            rooms = sorted(source.sample(range(40), source.randint(0, 12)))
            text = show_bits(plain_bits(rooms), MANY)
            self.assertEqual(text, "+".join(MANY[room] for room in rooms) or "-")
            self.assertEqual(plain_rooms(read_bits(text, MANY)), rooms)
        sixty = ["r" + "abcdefghij"[place % 10] + "abcdefg"[place // 10] for place in range(61)]
        self.assertEqual(read_bits("rag", sixty), 2 ** 60)
        self.assertEqual(show_bits(2 ** 60 + 1, sixty), "raa+rag")

    def test_names_are_not_changed(self):
        names = list(NAMES)
        read_bits("a+ab", names)
        show_bits(3, names)
        self.assertEqual(names, NAMES)


class ReadTest(unittest.TestCase):
    def test_no_lines(self):
        hold, names = read_hold([])
        self.assertEqual((told(hold), names), (told(Hold()), []))

    def test_without_bounds(self):
        hold, names = read_hold(["room a 0 1/2"])
        self.assertEqual(told(hold)["bounds"], (4, 0, 0))
        self.assertEqual((hold.marks(0), names), ([(0, 1), (1, 2)], ["a"]))

    def test_bounds(self):
        self.assertEqual(told(read_hold(["bounds 0 30 7"])[0])["bounds"], (0, 30, 7))
        self.assertEqual(told(read_hold(["bounds 3 0 30", "room a 0 1"])[0])["bounds"], (3, 0, 30))

    def test_each_line(self):
        hold, names = read_hold([
            "bounds 2 12 5", "room hall -1/2 10 20", "room loft 1 11", "sky hall 1/6 -5/2 9", "flow hall loft 1/4",
            "stove hall 7/2 4 2 1", "flow loft hall 1/7", "stove loft 0 0 0 0",
        ])
        self.assertEqual(names, ["hall", "loft"])
        self.assertEqual(told(hold), {
            "bounds": (2, 12, 5), "marks": [[(-1, 2), (10, 1), (20, 1)], [(1, 1), (11, 1)]],
            "shares": [[(7, 12), (1, 4)], [(1, 7), (6, 7)]], "skies": [((1, 6), (-5, 2), (9, 1)), ((0, 1),) * 3],
            "stoves": [((7, 2), 4, 2, 1), ((0, 1), 0, 0, 0)],
        })

    def test_told_twice_the_last_holds(self):
        hold, _ = read_hold([
            "room a 0 9", "room b 0 9", "sky a 1 0 1", "sky a 1/2 2 3", "flow a b 1/2", "flow a b 0", "stove a 1 1 1 1",
            "stove a 2 0 0 0", "flow b a 1", "flow b a 1/3",
        ])
        self.assertEqual(hold.sky(0), ((1, 2), (2, 1), (3, 1)))
        self.assertEqual(hold.stove(0), ((2, 1), 0, 0, 0))
        self.assertEqual((hold.share(0, 1), hold.share(1, 0)), ((0, 1), (1, 3)))

    def test_names(self):
        for name in ("a", "z", "abcdefgh", "room", "sky", "bounds", "kept"):
            self.assertEqual(read_hold([f"room {name} 0 1", f"stove {name} 1 0 0 0"])[1], [name])

    def lines(self, line):
        return ["bounds 2 9 1", "room a 0 1 2", "room b 0 1", line]

    def test_no_line(self):
        for line in (
            "", " ", "a", "Room c 0 1", "rooms c 0 1", "room", "room c", "room c 0", " room c 0 1", "bounds 2 9 1",
            "bounds", "bounds 1 1", "bounds 1 1 1 1", "sky a 0 0", "sky a 0 0 0 0", "sky", "flow a b", "flow a b 0 0",
            "flow", "stove a 1 0 0", "stove a 1 0 0 0 0", "stove", "sky a 0 0 0 ", "sky  a 0 0 0", " sky a 0 0 0",
            "start 0 0 0", "turn - 0 0", "order", "flow a  b 0", "stove a 1 0 0 0 ", "bounds  2 9 1", "\tsky a 0 0 0",
        ):
            with self.subTest(line=line):
                refused(self, NoLine, lambda: read_hold(self.lines(line)))

    def test_bounds_as_the_first_line_alone(self):
        for lines in (
            ["room a 0 1", "bounds 1 1 1"], ["bounds 1 1 1", "bounds 1 1 1"], ["bounds 1 1"], ["bounds 1 1 1 1"],
            ["room a 0 1", "bounds 1 1"], ["bounds 1 1 1 "],
        ):
            refused(self, NoLine, lambda: read_hold(lines))

    def test_two_blanks_and_a_blank_at_an_end(self):
        # Where there may be more words, a word without signs is a mark, and no number.
        for line in ("room c 0 1 ", "room c  0 1", "room c 0  1"):
            refused(self, NoText, lambda: read_hold(self.lines(line)))
        refused(self, NoName, lambda: read_hold(self.lines("room  0 1")))
        refused(self, NoName, lambda: read_hold(self.lines("sky  0 0 0")))
        refused(self, NoText, lambda: read_hold(self.lines("sky a 0 0 ")))

    def test_no_name(self):
        for line in (
            "room A 0 1", "room abcdefghi 0 1", "room a1 0 1", "room 1 0 1", "room - 0 1", "room a+b 0 1",
            "room aB 0 1", "sky c 0 0 0", "sky A 0 0 0", "sky 0 0 0 0", "sky ab 0 0 0", "flow c a 0", "flow a c 0",
            "flow c d 0", "flow a a+b 0", "stove c 1 0 0 0", "stove - 1 0 0 0",
        ):
            with self.subTest(line=line):
                refused(self, NoName, lambda: read_hold(self.lines(line)))

    def test_twice(self):
        for line in ("room a 0 1", "room b 0 1", "room a x y", "room a 5 1"):
            refused(self, Twice, lambda: read_hold(self.lines(line)))
        self.assertEqual(read_hold(self.lines("room ab 0 1"))[1], ["a", "b", "ab"])

    def test_no_text(self):
        for line in (
            "room c x 1", "room c 0 x", "room c 0 1 2/4", "room c 0 -0", "room c 0 1/1", "sky a x 0 0", "sky a 0 x 0",
            "sky a 0 0 x", "flow a b x", "flow a b 2/4", "stove a x 0 0 0", "stove a 1 x 0 0", "stove a 1 0 x 0",
            "stove a 1 0 0 x", "stove a 1 1/2 0 0", "stove a 1 0 -1 0", "stove a 1 0 0 01", "sky a 00 0 0",
            f"stove a 1 {10 ** 30} 0 0", f"room c 0 {10 ** 30}",
        ):
            with self.subTest(line=line):
                refused(self, NoText, lambda: read_hold(self.lines(line)))
        for line in ("bounds x 0 0", "bounds 0 x 0", "bounds 0 0 x", "bounds -1 0 0", "bounds 1/2 0 0", "bounds 0 0 "):
            refused(self, NoText, lambda: read_hold([line]))

    def test_from_the_left(self):
        for line, kind in (
            ("sky c x 0 0", NoName), ("sky a x 1 0", NoText), ("flow c d x", NoName), ("flow a d x", NoName),
            ("flow a a x", NoText), ("stove c x 0 0 0", NoName), ("stove a x -1 0 0", NoText), ("room A x y", NoName),
            ("room a x y", Twice), ("room c x y", NoText), ("room c 5 1 x", NoText),
        ):
            with self.subTest(line=line):
                refused(self, kind, lambda: read_hold(self.lines(line)))

    def test_refusals_of_what_is_done(self):
        for line, kind in (
            ("room c 1 1", NoMarks), ("room c 1 0", NoMarks), ("room c 0 1 2 3 4 5 6 7", NoMarks),
            ("flow a a 0", NoRoom), ("flow a b 2", NoShare), ("flow a b -1", NoShare), ("sky a 0 1 0", NoSky),
            ("sky a 2 0 0", NoShare), ("sky a 2 1 0", NoSky), ("stove a -1 0 0 0", NoStove),
            ("stove a 1 10 0 0", NoStove),
            ("stove a 1 0 4 0", NoStove), ("stove a 1 0 0 4", NoStove),
        ):
            with self.subTest(line=line):
                refused(self, kind, lambda: read_hold(self.lines(line)))
        for line in ("bounds 5 0 0", "bounds 0 31 0", "bounds 0 0 31", f"bounds {THIRTY} 0 0"):
            refused(self, NoHold, lambda: read_hold([line]))
        rooms = [f"room {name} 0 1 2 3 4 5 6" for name in "abc"]
        refused(self, TooMany, lambda: read_hold(rooms + ["room d 0 1 2"]))
        rooms = [f"room {name} 0 1" for name in "abcd"]
        refused(self, Full, lambda: read_hold(rooms + ["room e 1 0"]))
        refused(self, Twice, lambda: read_hold(rooms + ["room d 1 0"]))

    def test_values_of_refusals(self):
        with self.assertRaises(NoShare) as caught:
            read_hold(self.lines("flow b a 2"))
        self.assertEqual(caught.exception.room, 1)
        with self.assertRaises(NoRoom) as caught:
            read_hold(self.lines("flow b b 0"))
        self.assertEqual(caught.exception.room, 1)

    def test_the_first_of_several_wrong_lines(self):
        wrong = {"x": NoLine, "sky c 0 0 0": NoName, "room a 0 1": Twice, "sky a x 0 0": NoText, "flow a a 0": NoRoom}
        for first, kind in wrong.items():
            for second in wrong:
                refused(self, kind, lambda: read_hold(self.lines(first) + [second]))
        # What a later line tells is not there for one before.
        refused(self, NoName, lambda: read_hold(["sky a 0 0 0", "room a 0 1"]))

    def test_lists_are_the_askers_own(self):
        lines = ["room a 0 1"]
        hold, names = read_hold(lines)
        lines.append("room b 0 1")
        names.append("c")
        self.assertEqual(hold.many(), 1)
        self.assertEqual(read_hold(lines)[1], ["a", "b"])
        self.assertEqual(lines, ["room a 0 1", "room b 0 1"])
        hold.put_room(whole_marks(0, 1))
        self.assertEqual(read_hold(lines[:1])[0].many(), 1)


class ShowTest(unittest.TestCase):
    def test_filled(self):
        self.assertEqual(show_hold(filled_hold(), ["x", "a", "xx"]), [
            "bounds 2 12 5", "room x 0 10 20", "room a 1 11 21", "room xx 2 12 22", "sky x 1/6 -5/2 9", "sky a 1 3 3",
            "sky xx 0 0 0", "flow x a 1/4", "flow x xx 1/3", "flow xx x 1/7", "stove x 7/2 4 2 1", "stove xx 0 0 0 0",
        ])

    def test_no_rooms(self):
        self.assertEqual(show_hold(Hold(), []), ["bounds 4 0 0"])

    def test_a_share_that_is_nought_again(self):
        hold = filled_hold()
        hold.put_flow(0, 1, (0, 1))
        hold.put_flow(2, 0, (0, 1))
        shown = [line for line in show_hold(hold, ["a", "b", "c"]) if line.startswith("flow")]
        self.assertEqual(shown, ["flow a c 1/3"])

    def test_flows_in_their_order(self):
        hold, names = read_hold(["room b 0 1", "room a 0 1", "room c 0 1"])
        for into, of in ((2, 1), (1, 2), (0, 2), (2, 0), (1, 0), (0, 1)):
            hold.put_flow(into, of, (1, 9))
        shown = [line for line in show_hold(hold, names) if line.startswith("flow")]
        pairs = ("b a", "b c", "a b", "a c", "c b", "c a")
        self.assertEqual(shown, [f"flow {words} 1/9" for words in pairs])

    def test_weather_without_a_share(self):
        hold, names = read_hold(["room a 0 1", "sky a 0 -3 5/2"])
        self.assertEqual(show_hold(hold, names), ["bounds 4 0 0", "room a 0 1", "sky a 0 -3 5/2"])

    def test_read_again(self):
        source = random.Random(3)
        for figures in (1, 2, 7):
            for _ in range(60):
                hold = some_hold(source, figures=figures)
                names = source.sample(NAMES + ["hall", "hallway", "h"], hold.many())
                lines = show_hold(hold, names)
                self.assertEqual([type(line) for line in lines], [str] * len(lines))
                again, same = read_hold(lines)
                self.assertEqual((told(again), same), (told(hold), names))
                self.assertEqual(show_hold(again, same), lines)

    def test_thirty_figures(self):
        hold = Hold()
        hold.put_room([(-THIRTY, 1), (1, THIRTY), (THIRTY, 10 ** 29)])
        hold.put_sky(0, (1, THIRTY), (-THIRTY, 2), (THIRTY, 1))
        hold.put_stove(0, (THIRTY, 10 ** 29))
        self.assertEqual(told(read_hold(show_hold(hold, ["a"]))[0]), told(hold))

    def test_nothing_is_changed(self):
        hold = filled_hold()
        ahead = told(hold)
        names = ["a", "b", "c"]
        show_hold(hold, names).clear()
        self.assertEqual((told(hold), names), (ahead, ["a", "b", "c"]))
        self.assertEqual(len(show_hold(hold, names)), 12)


class InterfaceTest(unittest.TestCase):
    def test_names_and_arguments(self):
        rows = {
            "read_whole": "text", "read_fraction": "text", "show_fraction": "one", "read_bits": "text names",
            "show_bits": "bits names", "read_hold": "lines", "show_hold": "hold names",
        }
        for name, wanted in rows.items():
            self.assertEqual(list(inspect.signature(getattr(texts, name)).parameters), wanted.split())

    def test_kinds(self):
        self.assertIs(type(read_hold([])), tuple)
        self.assertIs(type(read_hold([])[1]), list)
        self.assertIs(type(show_hold(Hold(), [])), list)


if __name__ == "__main__":
    unittest.main()
