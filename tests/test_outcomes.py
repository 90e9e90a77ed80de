import inspect
import random
import unittest
from fractions import Fraction

from stoke.holds import Hold
from stoke.stoves import is_state, orders_of, start_state
from stoke.turns import outcomes
from tests.telling import pair, plain_outcomes, some_hold, some_state, told, whole_marks

LITTLE = Fraction(1, 10 ** 29)


# One room of three bands, that keeps its air but for a half of the weather.
def open_room(low, high, **bounds):
    hold = Hold(**bounds)
    hold.put_room(whole_marks(0, 10, 20, 30))
    hold.put_sky(0, (1, 2), pair(Fraction(low)), pair(Fraction(high)))
    return hold


def bands_behind(hold, band, order=0):
    found = outcomes(hold, start_state(hold, (band,)), order)
    return None if found is None else sorted(state[0][0] for state in found)


class SpreadTest(unittest.TestCase):
    def test_bands_that_the_span_touches(self):
        self.assertEqual(bands_behind(open_room(2, 4), 0), [0])
        self.assertEqual(bands_behind(open_room(2, 4), 2), [1])
        self.assertEqual(bands_behind(open_room(12, 20), 0), [0, 1])
        self.assertEqual(bands_behind(open_room(0, 30), 1), [0, 1, 2])

    def test_span_that_ends_at_a_mark(self):
        self.assertEqual(bands_behind(open_room(2, 10), 0), [0, 1])
        self.assertEqual(bands_behind(open_room(2, 10 - LITTLE), 0), [0])
        self.assertEqual(bands_behind(open_room(10, 10), 1), [0, 1])
        self.assertEqual(bands_behind(open_room(10 + LITTLE, 12), 1), [1])

    def test_span_that_ends_at_a_bound(self):
        self.assertEqual(bands_behind(open_room(0, 0), 0), [0])
        self.assertIsNone(bands_behind(open_room(-LITTLE, 0), 0))
        self.assertEqual(bands_behind(open_room(30, 30), 2), [2])
        self.assertIsNone(bands_behind(open_room(30, 30 + LITTLE), 2))

    def test_heat(self):
        hold = open_room(10, 10)
        hold.put_stove(0, (15, 1))
        self.assertEqual(bands_behind(hold, 1, 1), [2])
        self.assertEqual(bands_behind(hold, 2, 0), [1, 2])
        self.assertIsNone(bands_behind(hold, 2, 1))
        hold.put_stove(0, (10, 1))
        self.assertEqual(bands_behind(hold, 2, 1), [2])
        hold.put_stove(0, pair(10 + LITTLE))
        self.assertIsNone(bands_behind(hold, 2, 1))

    def test_each_room_by_itself(self):
        hold = Hold()
        hold.put_room(whole_marks(0, 10, 20))
        hold.put_room(whole_marks(0, 10, 20))
        hold.put_flow(0, 1, (1, 2))
        hold.put_flow(1, 0, (1, 2))
        found = outcomes(hold, start_state(hold, (0, 1)), 0)
        none = (0, (0, 0), (0, 0), 0)
        self.assertEqual(sorted(found), [((one, other),) + none for one in (0, 1) for other in (0, 1)])

    def test_one_room_out_of_bounds_is_enough(self):
        hold = Hold()
        hold.put_room(whole_marks(0, 10))
        hold.put_room(whole_marks(0, 10))
        self.assertEqual(len(outcomes(hold, start_state(hold, (0, 0)), 0)), 1)
        hold.put_sky(1, (1, 10), (-1, 1), (0, 1))
        self.assertIsNone(outcomes(hold, start_state(hold, (0, 0)), 0))


class FailingTest(unittest.TestCase):
    def test_each_out(self):
        hold = Hold(cap=9, load=1)
        for _ in range(2):
            hold.put_room(whole_marks(0, 10, 20))
            hold.put_sky(hold.many() - 1, (1, 1), (5, 1), (5, 1))
        hold.put_stove(0, (10, 1), wood=3, stay=2, fails=1)
        hold.put_stove(1, (10, 1), wood=2, stay=1, fails=2)
        found = outcomes(hold, start_state(hold, (0, 0), 9), 3)
        self.assertEqual(sorted(found), [
            ((0, 0), 0, (0, 0), (1, 1), 9), ((0, 1), 2, (0, 1), (1, 0), 8), ((1, 0), 1, (2, 0), (0, 1), 7),
            ((1, 1), 3, (2, 1), (0, 0), 5),
        ])
        state = ((0, 0), 0, (0, 0), (1, 2), 9)
        self.assertEqual(outcomes(hold, state, 3), [((1, 1), 3, (2, 1), (0, 0), 5)])

    def test_unsafe_for_one_out_alone(self):
        hold = Hold()
        hold.put_room(whole_marks(0, 10, 20))
        hold.put_sky(0, (1, 1), (-5, 1), (2, 1))
        hold.put_stove(0, (6, 1))
        state = start_state(hold, (0,))
        self.assertEqual(outcomes(hold, state, 1), [((0,), 1, (0,), (0,), 0)])
        hold.put_stove(0, (6, 1), fails=1)
        self.assertIsNone(outcomes(hold, state, 1))
        # Failed as often as it may, it lights for certain; and one that burns does not fail.
        self.assertEqual(outcomes(hold, ((0,), 0, (0,), (1,), 0), 1), [((0,), 1, (0,), (0,), 0)])
        self.assertEqual(outcomes(hold, ((0,), 1, (0,), (0,), 0), 1), [((0,), 1, (0,), (0,), 0)])

    def test_unsafe_only_where_it_lights(self):
        hold = open_room(30, 30)
        hold.put_stove(0, (1, 1), fails=3)
        self.assertIsNone(bands_behind(hold, 2, 1))
        self.assertEqual(bands_behind(hold, 2, 0), [2])

    def test_same_bands_by_several_ways_each_state_once(self):
        hold = open_room(10, 10)
        # Without heat, lit or failed, all comes to the same warmths.
        hold.put_stove(0, (0, 1), fails=2)
        found = outcomes(hold, start_state(hold, (1,)), 1)
        self.assertEqual(len(found), len(set(found)))
        self.assertEqual(set(found), {((band,), lit, (0,), (1 - lit,), 0) for band in (0, 1) for lit in (0, 1)})


class SomeTest(unittest.TestCase):
    def check(self, source, many, **kinds):
        safe = 0
        unsafe = 0
        for _ in range(many):
            hold = some_hold(source, **kinds)
            state = some_state(source, hold)
            for order in orders_of(hold, state):
                wanted = plain_outcomes(hold, state, order)
                found = outcomes(hold, state, order)
                if wanted is None:
                    unsafe += 1
                    self.assertIsNone(found, (told(hold), state, order))
                else:
                    safe += 1
                    self.assertIs(type(found), list)
                    self.assertEqual(len(found), len(wanted), (told(hold), state, order))
                    self.assertEqual(set(found), wanted, (told(hold), state, order))
                    self.assertTrue(all(is_state(hold, each) for each in found))
        return (safe, unsafe)

    def test_mild_holds(self):
        safe, unsafe = self.check(random.Random(1), 60, mild=True)
        self.assertGreater(safe, 60)
        self.assertGreater(unsafe, 10)

    def test_wild_holds(self):
        self.check(random.Random(2), 30)

    def test_many_figures(self):
        safe, _ = self.check(random.Random(3), 20, figures=5, mild=True, most_rooms=3)
        self.assertGreater(safe, 10)


class OwnTest(unittest.TestCase):
    def test_told_list_is_the_askers_own(self):
        hold = open_room(0, 30)
        outcomes(hold, start_state(hold, (1,)), 0).clear()
        self.assertEqual(bands_behind(hold, 1), [0, 1, 2])

    def test_as_the_hold_is_then(self):
        hold = open_room(0, 30)
        self.assertEqual(bands_behind(hold, 1), [0, 1, 2])
        hold.put_sky(0, (1, 2), (11, 1), (12, 1))
        self.assertEqual(bands_behind(hold, 1), [1])
        hold.put_sky(0, (1, 1), (-1, 1), (12, 1))
        self.assertIsNone(bands_behind(hold, 1))

    def test_hold_is_not_changed(self):
        hold = open_room(0, 30)
        ahead = told(hold)
        bands_behind(hold, 1)
        self.assertEqual(told(hold), ahead)


class InterfaceTest(unittest.TestCase):
    def test_names_and_arguments(self):
        self.assertEqual(list(inspect.signature(outcomes).parameters), ["hold", "state", "order"])


if __name__ == "__main__":
    unittest.main()
