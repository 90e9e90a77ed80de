import inspect
import random
import unittest

from stoke import stoves
from stoke.errors import NoState, StokeError
from stoke.holds import Hold
from stoke.stoves import behind_turn, heeded, is_state, may_fail, orders_of, start_state
from stoke.turns import outcomes
from stoke.walks import Walk
from tests.telling import plain_is_state, some_hold, some_state, told, whole_marks

GREAT = 10 ** 59


def stoked_hold():
    hold = Hold(most=2, cap=9, load=2)
    hold.put_room(whole_marks(0, 10, 20, 30))
    hold.put_room(whole_marks(0, 10))
    hold.put_room(whole_marks(0, 10, 20))
    hold.put_room(whole_marks(0, 10, 20))
    hold.put_stove(0, (1, 1), wood=2, stay=2, fails=1)
    hold.put_stove(2, (1, 1), wood=1, stay=3, fails=3)
    hold.put_stove(3, (1, 1))
    return hold


STATES = (
    ((0, 0, 0, 0), 0, (0, 0, 0, 0), (0, 0, 0, 0), 0),
    ((2, 0, 1, 1), 5, (2, 0, 3, 0), (0, 0, 0, 0), 9),
    ((1, 0, 0, 1), 12, (2, 0, 1, 0), (0, 0, 0, 0), 4),
    ((1, 0, 0, 1), 8, (0, 0, 0, 0), (1, 0, 3, 0), 4),
    ((1, 0, 0, 1), 0, (2, 0, 3, 0), (0, 0, 0, 0), 4),
    ((1, 0, 0, 1), 1, (0, 0, 0, 0), (0, 0, 2, 0), 4),
)

# Each row breaks one condition of point 14 and keeps all others.
NO_STATES = {
    "no bands": ((), 0, (0, 0, 0, 0), (0, 0, 0, 0), 0),
    "too few bands": ((0, 0, 0), 0, (0, 0, 0, 0), (0, 0, 0, 0), 0),
    "too many bands": ((0, 0, 0, 0, 0), 0, (0, 0, 0, 0), (0, 0, 0, 0), 0),
    "too few waits": ((0, 0, 0, 0), 0, (0, 0, 0), (0, 0, 0, 0), 0),
    "too many waits": ((0, 0, 0, 0), 0, (0, 0, 0, 0, 0), (0, 0, 0, 0), 0),
    "too few failed": ((0, 0, 0, 0), 0, (0, 0, 0, 0), (0, 0, 0), 0),
    "too many failed": ((0, 0, 0, 0), 0, (0, 0, 0, 0), (0, 0, 0, 0, 0), 0),
    "all too long": ((0,) * 2000, 0, (0,) * 2000, (0,) * 2000, 0),
    "all empty": ((), 0, (), (), 0),
    "band below": ((0, -1, 0, 0), 0, (0, 0, 0, 0), (0, 0, 0, 0), 0),
    "band beyond": ((3, 0, 0, 0), 0, (0, 0, 0, 0), (0, 0, 0, 0), 0),
    "band beyond one": ((0, 1, 0, 0), 0, (0, 0, 0, 0), (0, 0, 0, 0), 0),
    "band great": ((0, 0, 0, GREAT), 0, (0, 0, 0, 0), (0, 0, 0, 0), 0),
    "band far below": ((0, 0, 0, -GREAT), 0, (0, 0, 0, 0), (0, 0, 0, 0), 0),
    "burns without a stove": ((0, 0, 0, 0), 2, (0, 0, 0, 0), (0, 0, 0, 0), 0),
    "burns in no room": ((0, 0, 0, 0), 16, (0, 0, 0, 0), (0, 0, 0, 0), 0),
    "burns far off": ((0, 0, 0, 0), 2 ** 60, (0, 0, 0, 0), (0, 0, 0, 0), 0),
    "more burn than most": ((0, 0, 0, 0), 13, (0, 0, 0, 0), (0, 0, 0, 0), 0),
    "wait below": ((0, 0, 0, 0), 0, (-1, 0, 0, 0), (0, 0, 0, 0), 0),
    "wait beyond the stay": ((0, 0, 0, 0), 0, (3, 0, 0, 0), (0, 0, 0, 0), 0),
    "wait beyond a stay of 0": ((0, 0, 0, 0), 0, (0, 0, 0, 1), (0, 0, 0, 0), 0),
    "wait great": ((0, 0, 0, 0), 0, (GREAT, 0, 0, 0), (0, 0, 0, 0), 0),
    "wait without a stove": ((0, 0, 0, 0), 0, (0, 1, 0, 0), (0, 0, 0, 0), 0),
    "wait below without a stove": ((0, 0, 0, 0), 0, (0, -1, 0, 0), (0, 0, 0, 0), 0),
    "failed below": ((0, 0, 0, 0), 0, (0, 0, 0, 0), (-1, 0, 0, 0), 0),
    "failed beyond the fails": ((0, 0, 0, 0), 0, (0, 0, 0, 0), (2, 0, 0, 0), 0),
    "failed beyond fails of 0": ((0, 0, 0, 0), 0, (0, 0, 0, 0), (0, 0, 0, 1), 0),
    "failed without a stove": ((0, 0, 0, 0), 0, (0, 0, 0, 0), (0, 1, 0, 0), 0),
    "failed below without a stove": ((0, 0, 0, 0), 0, (0, 0, 0, 0), (0, -1, 0, 0), 0),
    "failed and burns": ((0, 0, 0, 0), 4, (0, 0, 0, 0), (0, 0, 1, 0), 0),
    "failed and waits": ((0, 0, 0, 0), 0, (0, 0, 1, 0), (0, 0, 1, 0), 0),
    "heap below": ((0, 0, 0, 0), 0, (0, 0, 0, 0), (0, 0, 0, 0), -1),
    "heap above cap": ((0, 0, 0, 0), 0, (0, 0, 0, 0), (0, 0, 0, 0), 10),
    "heap great": ((0, 0, 0, 0), 0, (0, 0, 0, 0), (0, 0, 0, 0), GREAT),
}


class StateTest(unittest.TestCase):
    def test_states(self):
        for state in STATES:
            self.assertIs(is_state(stoked_hold(), state), True, state)

    def test_each_condition_by_itself(self):
        for name, state in NO_STATES.items():
            with self.subTest(name=name):
                self.assertIs(is_state(stoked_hold(), state), False)

    def test_edges_of_the_bounds(self):
        hold = stoked_hold()
        none = (0, 0, 0, 0)
        for heap in range(10):
            self.assertTrue(is_state(hold, (none, 0, none, none, heap)))
        for wait in range(4):
            self.assertTrue(is_state(hold, (none, 4, (0, 0, wait, 0), none, 0)))
            self.assertTrue(is_state(hold, (none, 0, (0, 0, wait, 0), none, 0)))
            self.assertTrue(is_state(hold, (none, 0, none, (0, 0, wait, 0), 0)))

    def test_a_most_of_none(self):
        hold = Hold(most=0)
        hold.put_room(whole_marks(0, 1))
        hold.put_stove(0, (1, 1))
        self.assertTrue(is_state(hold, ((0,), 0, (0,), (0,), 0)))
        self.assertFalse(is_state(hold, ((0,), 1, (0,), (0,), 0)))

    def test_some_states_and_some_that_are_none(self):
        source = random.Random(1)
        seen = {True: 0, False: 0}
        for _ in range(600):
            hold = some_hold(source)
            state = self.spoiled(source, some_state(source, hold))
            wanted = plain_is_state(hold, state)
            seen[wanted] += 1
            self.assertIs(is_state(hold, state), wanted, (told(hold), state))
        self.assertGreater(min(seen.values()), 100)

    def spoiled(self, source, state):
        bands, burning, waits, failed, heap = [list(part) if isinstance(part, tuple) else part for part in state]
        for _ in range(source.randint(0, 2)):
            row = source.choice((bands, waits, failed))
            row[source.randrange(len(row))] += source.choice((-1, 1, 1))
            burning ^= source.choice((0, 0, 1, 2, 4, 16))
            heap += source.choice((0, 0, -1, 1))
        return (tuple(bands), burning, tuple(waits), tuple(failed), heap)

    def test_as_the_hold_is_then(self):
        hold = stoked_hold()
        state = ((0, 0, 0, 0), 2, (0, 3, 0, 0), (0, 0, 0, 0), 0)
        self.assertFalse(is_state(hold, state))
        hold.put_stove(1, (1, 1), stay=3)
        self.assertTrue(is_state(hold, state))
        hold.put_stove(1, (1, 1), stay=2)
        self.assertFalse(is_state(hold, state))


class StartTest(unittest.TestCase):
    def test_start(self):
        hold = stoked_hold()
        wanted = ((2, 0, 1, 1), 0, (0, 0, 0, 0), (0, 0, 0, 0), 0)
        self.assertEqual(start_state(hold, (2, 0, 1, 1)), wanted)
        self.assertEqual(start_state(hold, [2, 0, 1, 1]), wanted)
        self.assertEqual(start_state(hold, [2, 0, 1, 1], 9), wanted[:4] + (9,))
        self.assertEqual(start_state(hold, bands=[2, 0, 1, 1], heap=0), wanted)

    def test_tuples_all_through(self):
        state = start_state(stoked_hold(), [0, 0, 0, 0])
        self.assertEqual([type(part) for part in state], [tuple, int, tuple, tuple, int])

    def test_no_state(self):
        hold = stoked_hold()
        wrong = (
            ((), 0), ((0, 0, 0), 0), ((0, 0, 0, 0, 0), 0), ([0] * 2000, 0), ((3, 0, 0, 0), 0), ((0, 1, 0, 0), 0),
            ((0, 0, 0, -1), 0), ((0, 0, GREAT, 0), 0), ((0, 0, 0, 0), -1), ((0, 0, 0, 0), 10), ((0, 0, 0, 0), GREAT),
            ((0, 0, 0, 0), -GREAT),
        )
        for bands, heap in wrong:
            with self.subTest(bands=bands, heap=heap):
                with self.assertRaises(NoState) as caught:
                    start_state(hold, bands, heap)
                self.assertIsInstance(caught.exception, StokeError)

    def test_list_is_copied(self):
        bands = [2, 0, 1, 1]
        state = start_state(stoked_hold(), bands)
        bands[0] = 0
        self.assertEqual(state[0], (2, 0, 1, 1))


class RefusalTest(unittest.TestCase):
    def test_each_function_that_is_handed_a_state(self):
        hold = stoked_hold()
        ahead = told(hold)
        for name, state in NO_STATES.items():
            with self.subTest(name=name):
                self.refused(lambda: orders_of(hold, state))
                self.refused(lambda: heeded(hold, state, 0))
                self.refused(lambda: heeded(hold, state, 2 ** 61 - 1))
                self.refused(lambda: may_fail(hold, state, 0))
                self.refused(lambda: behind_turn(hold, state, 0, 0))
                self.refused(lambda: outcomes(hold, state, 0))
                self.refused(lambda: Walk(hold, state))
        self.assertEqual(told(hold), ahead)

    def refused(self, deed):
        with self.assertRaises(NoState) as caught:
            deed()
        self.assertIs(type(caught.exception), NoState)

    def test_a_state_of_another_hold(self):
        other = Hold(cap=30)
        other.put_room(whole_marks(0, 1))
        self.refused(lambda: orders_of(other, STATES[0]))
        self.refused(lambda: orders_of(stoked_hold(), start_state(other, (0,), 30)))


class InterfaceTest(unittest.TestCase):
    def test_names_and_arguments(self):
        rows = {
            "is_state": "hold state", "start_state": "hold bands heap", "wood_of": "hold bits",
            "orders_of": "hold state", "heeded": "hold state wish", "may_fail": "hold state order",
            "behind_turn": "hold state order out",
        }
        for name, wanted in rows.items():
            with self.subTest(name=name):
                self.assertEqual(list(inspect.signature(getattr(stoves, name)).parameters), wanted.split())


if __name__ == "__main__":
    unittest.main()
