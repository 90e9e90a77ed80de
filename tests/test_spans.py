import inspect
import random
import unittest
from fractions import Fraction
from itertools import product

from stoke import spans
from stoke.holds import Hold
from stoke.spans import span_of, touched, warmth_of, within
from tests.telling import (
    exact, filled_hold, pair, plain_is_within, plain_span, plain_touched, plain_warmth, some_exact, some_hold, told,
    whole_marks,
)

LITTLE = Fraction(1, 10 ** 30)


def three_bands():
    hold = Hold()
    hold.put_room(whole_marks(0, 10, 20, 30))
    return hold


class WarmthTest(unittest.TestCase):
    def test_all_that_comes_together(self):
        hold = filled_hold()
        # Room 0 takes 1/4 of room 1, 1/3 of room 2, 1/6 of the weather, 1/4 of its own; its stove's heat is 7/2.
        airs = [(8, 1), (4, 1), (-3, 2)]
        self.assertEqual(warmth_of(hold, 0, airs, (6, 1), False), (7, 2))
        self.assertEqual(warmth_of(hold, 0, airs, (6, 1), True), (7, 1))
        self.assertEqual(warmth_of(hold, 1, airs, (3, 1), False), (3, 1))
        self.assertEqual(warmth_of(hold, 2, [(7, 1), (99, 1), (14, 1)], (99, 1), False), (13, 1))
        self.assertEqual(warmth_of(hold, 2, [(7, 1), (99, 1), (14, 1)], (99, 1), True), (13, 1))

    def test_a_room_by_itself_keeps_its_air(self):
        hold = three_bands()
        self.assertEqual(warmth_of(hold, 0, [(-7, 3)], (99, 1), False), (-7, 3))

    def test_some_holds(self):
        source = random.Random(1)
        for figures in (1, 2, 30, 400):
            for _ in range(12):
                hold = some_hold(source, figures=min(figures, 5))
                for room in range(hold.many()):
                    airs = [some_exact(source, -40, 40, figures) for _ in range(hold.many())]
                    weather = some_exact(source, -40, 40, figures)
                    for fired in (False, True) if hold.stove(room) else (False,):
                        wanted = pair(plain_warmth(hold, room, airs, weather, fired))
                        self.assertEqual(warmth_of(hold, room, [pair(air) for air in airs], pair(weather), fired), wanted)

    def test_hold_of_thirty_figures(self):
        great = 10 ** 30 - 1
        hold = Hold()
        hold.put_room([(-great, 1), (great, great - 1)])
        hold.put_room([(1, great), (great, 1)])
        hold.put_flow(0, 1, (1, great))
        hold.put_sky(0, (1, great - 1), (-great, great - 4), (great, great - 1))
        hold.put_stove(0, (great - 2, great))
        airs = [Fraction(7, great - 10), Fraction(-great, great - 12)]
        wanted = plain_warmth(hold, 0, airs, Fraction(1, 7), True)
        self.assertEqual(warmth_of(hold, 0, [pair(air) for air in airs], (1, 7), True), pair(wanted))


class SpanTest(unittest.TestCase):
    def test_ends(self):
        hold = filled_hold()
        # Room 0: bands of 0 to 10, of 11 to 21, of 2 to 12; weather of -5/2 to 9.
        least = Fraction(11, 4) + Fraction(2, 3) - Fraction(5, 12)
        greatest = Fraction(10, 4) + Fraction(21, 4) + 4 + Fraction(3, 2)
        self.assertEqual(span_of(hold, 0, (0, 1, 0), False), (pair(least), pair(greatest)))
        heat = Fraction(7, 2)
        self.assertEqual(span_of(hold, 0, (0, 1, 0), True), (pair(least + heat), pair(greatest + heat)))
        self.assertEqual(span_of(hold, 1, (0, 1, 0), False), ((3, 1), (3, 1)))

    def test_bands_as_tuple_or_list(self):
        hold = filled_hold()
        for bands in product((0, 1), repeat=3):
            self.assertEqual(span_of(hold, 2, list(bands), True), span_of(hold, 2, bands, True))

    def test_room_alone_spans_its_band(self):
        hold = three_bands()
        self.assertEqual([span_of(hold, 0, (band,), False) for band in range(3)], [
            ((0, 1), (10, 1)), ((10, 1), (20, 1)), ((20, 1), (30, 1)),
        ])

    def test_some_holds_at_all_corners(self):
        source = random.Random(2)
        for figures in (1, 2, 5):
            for _ in range(15):
                hold = some_hold(source, figures=figures)
                for room in range(hold.many()):
                    bands = [source.randrange(len(hold.marks(of)) - 1) for of in range(hold.many())]
                    for fired in (False, True) if hold.stove(room) else (False,):
                        least, greatest = plain_span(hold, room, bands, fired)
                        self.assertEqual(span_of(hold, room, bands, fired), (pair(least), pair(greatest)))

    def test_each_air_by_itself_comes_within(self):
        source = random.Random(3)
        for _ in range(30):
            hold = some_hold(source, figures=2)
            bands = [source.randrange(len(hold.marks(of)) - 1) for of in range(hold.many())]
            for room in range(hold.many()):
                airs = [self.between(source, *hold.marks(of)[band:band + 2]) for of, band in enumerate(bands)]
                weather = self.between(source, *hold.sky(room)[1:])
                warmth = exact(warmth_of(hold, room, airs, weather, False))
                least, greatest = span_of(hold, room, bands, False)
                self.assertTrue(exact(least) <= warmth <= exact(greatest))

    def between(self, source, low, high):
        part = source.choice((Fraction(0), Fraction(1), some_exact(source, 0, 1)))
        return pair(exact(low) + (exact(high) - exact(low)) * part)


class TouchedTest(unittest.TestCase):
    def touches(self, least, greatest):
        return touched(three_bands(), 0, pair(Fraction(least)), pair(Fraction(greatest)))

    def test_within_and_over_bands(self):
        self.assertEqual(self.touches(3, 4), [0])
        self.assertEqual(self.touches(3, 14), [0, 1])
        self.assertEqual(self.touches(3, 29), [0, 1, 2])
        self.assertEqual(self.touches(21, 22), [2])
        self.assertEqual(self.touches(-5, 35), [0, 1, 2])

    def test_a_mark_amid_is_in_two_bands(self):
        self.assertEqual(self.touches(10, 10), [0, 1])
        self.assertEqual(self.touches(3, 10), [0, 1])
        self.assertEqual(self.touches(10, 13), [0, 1])
        self.assertEqual(self.touches(10, 20), [0, 1, 2])
        self.assertEqual(self.touches(3, 10 - LITTLE), [0])
        self.assertEqual(self.touches(10 + LITTLE, 20 - LITTLE), [1])
        self.assertEqual(self.touches(10 + LITTLE, 20), [1, 2])

    def test_bounds(self):
        self.assertEqual(self.touches(0, 0), [0])
        self.assertEqual(self.touches(30, 30), [2])
        self.assertEqual(self.touches(-9, 0), [0])
        self.assertEqual(self.touches(30, 99), [2])
        self.assertEqual(self.touches(-9, -LITTLE), [])
        self.assertEqual(self.touches(30 + LITTLE, 99), [])

    def test_some_spans(self):
        source = random.Random(4)
        for _ in range(200):
            hold = some_hold(source, most_rooms=1)
            ends = [some_exact(source, -30, 30), some_exact(source, -30, 30), exact(source.choice(hold.marks(0)))]
            least, greatest = sorted(source.sample(ends, 2))
            wanted = plain_touched(hold, 0, least, greatest)
            self.assertEqual(touched(hold, 0, pair(least), pair(greatest)), wanted)
            wanted = plain_is_within(hold, 0, least, greatest)
            self.assertIs(within(hold, 0, pair(least), pair(greatest)), wanted)


class WithinTest(unittest.TestCase):
    def test_bounds_and_a_very_little_beyond(self):
        rows = (
            (0, 30, True), (0, 0, True), (30, 30, True), (3, 4, True), (LITTLE, 30 - LITTLE, True),
            (-LITTLE, 30, False), (0, 30 + LITTLE, False), (-LITTLE, 30 + LITTLE, False),
            (-5, -4, False), (31, 32, False),
        )
        for least, greatest, wanted in rows:
            with self.subTest(least=least, greatest=greatest):
                found = within(three_bands(), 0, pair(Fraction(least)), pair(Fraction(greatest)))
                self.assertIs(found, wanted)

    def test_marks_amid_are_no_bounds(self):
        self.assertIs(within(three_bands(), 0, (5, 1), (25, 1)), True)


class OwnTest(unittest.TestCase):
    def test_hold_is_asked_as_it_is_then(self):
        hold = three_bands()
        hold.put_room(whole_marks(0, 4))
        self.assertEqual(span_of(hold, 0, (1, 0), False), ((10, 1), (20, 1)))
        hold.put_flow(0, 1, (1, 2))
        self.assertEqual(span_of(hold, 0, (1, 0), False), ((5, 1), (12, 1)))
        hold.put_sky(0, (1, 2), (-4, 1), (6, 1))
        self.assertEqual(span_of(hold, 0, (1, 0), False), ((-2, 1), (5, 1)))
        hold.put_stove(0, (1, 2))
        self.assertEqual(span_of(hold, 0, (1, 0), True), ((-3, 2), (11, 2)))
        self.assertEqual(warmth_of(hold, 0, [(9, 1), (2, 1)], (1, 1), True), (2, 1))

    def test_nothing_handed_in_is_changed(self):
        hold = filled_hold()
        ahead = told(hold)
        airs = [(1, 1), (2, 1), (3, 1)]
        bands = [0, 1, 0]
        warmth_of(hold, 0, airs, (0, 1), True)
        span_of(hold, 0, bands, True)
        self.assertEqual((airs, bands, told(hold)), ([(1, 1), (2, 1), (3, 1)], [0, 1, 0], ahead))

    def test_told_list_is_the_askers_own(self):
        hold = three_bands()
        touched(hold, 0, (0, 1), (30, 1)).clear()
        self.assertEqual(touched(hold, 0, (0, 1), (30, 1)), [0, 1, 2])

    def test_kinds(self):
        hold = filled_hold()
        self.assertIs(type(span_of(hold, 0, (0, 0, 0), False)), tuple)
        self.assertIs(type(warmth_of(hold, 0, [(1, 1)] * 3, (0, 1), False)), tuple)
        self.assertIs(type(touched(hold, 0, (0, 1), (1, 1))), list)


class InterfaceTest(unittest.TestCase):
    def test_names_and_arguments(self):
        rows = {
            "warmth_of": ["hold", "room", "airs", "weather", "fired"], "span_of": ["hold", "room", "bands", "fired"],
            "touched": ["hold", "room", "least", "greatest"], "within": ["hold", "room", "least", "greatest"],
        }
        for name, wanted in rows.items():
            with self.subTest(name=name):
                self.assertEqual(list(inspect.signature(getattr(spans, name)).parameters), wanted)


if __name__ == "__main__":
    unittest.main()
