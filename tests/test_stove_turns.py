import random
import unittest

from stoke.bits import subsets
from stoke.holds import Hold, hold_like
from stoke.stoves import behind_turn, is_state, may_fail, orders_of, start_state
from tests.telling import plain_behind, plain_may_fail, plain_parts, some_hold, some_state, told, whole_marks


def two_stoves(**bounds):
    hold = Hold(**bounds)
    for _ in range(3):
        hold.put_room(whole_marks(0, 10))
    hold.put_stove(0, (1, 1), wood=3, stay=2, fails=2)
    hold.put_stove(2, (1, 1), wood=1, stay=1, fails=0)
    return hold


def state_with(burning=0, waits=(0, 0, 0), failed=(0, 0, 0), heap=8):
    return ((0, 0, 0), burning, waits, failed, heap)


class MayFailTest(unittest.TestCase):
    def test_of_the_order_alone(self):
        hold = two_stoves(cap=9)
        self.assertEqual([may_fail(hold, state_with(), order) for order in (0, 1, 4, 5)], [0, 1, 0, 1])

    def test_a_stove_that_burns(self):
        hold = two_stoves(cap=9)
        for waits in ((0, 0, 0), (2, 0, 0)):
            self.assertEqual(may_fail(hold, state_with(burning=1, waits=waits), 1), 0)

    def test_failed_as_often_as_it_may(self):
        hold = two_stoves(cap=9)
        for failed, wanted in ((0, 1), (1, 1), (2, 0)):
            self.assertEqual(may_fail(hold, state_with(failed=(failed, 0, 0)), 5), wanted)

    def test_several(self):
        hold = two_stoves(cap=9)
        hold.put_stove(2, (1, 1), fails=1)
        self.assertEqual(may_fail(hold, state_with(), 5), 5)
        self.assertEqual(may_fail(hold, state_with(failed=(0, 0, 1)), 5), 1)
        self.assertEqual(may_fail(hold, state_with(burning=1), 5), 4)


class BehindTest(unittest.TestCase):
    def test_lit(self):
        hold = two_stoves(cap=9)
        self.assertEqual(behind_turn(hold, state_with(), 1, 0), (1, (2, 0, 0), (0, 0, 0), 5))
        self.assertEqual(behind_turn(hold, state_with(), 5, 0), (5, (2, 0, 1), (0, 0, 0), 4))

    def test_put_out(self):
        hold = two_stoves(cap=9)
        self.assertEqual(behind_turn(hold, state_with(burning=5), 4, 0), (4, (2, 0, 0), (0, 0, 0), 7))
        self.assertEqual(behind_turn(hold, state_with(burning=5), 0, 0), (0, (2, 0, 1), (0, 0, 0), 8))

    def test_stays(self):
        hold = two_stoves(cap=9)
        for wait, wanted in ((2, 1), (1, 0), (0, 0)):
            found = behind_turn(hold, state_with(burning=1, waits=(wait, 0, 0)), 1, 0)
            self.assertEqual(found, (1, (wanted, 0, 0), (0, 0, 0), 5))
            found = behind_turn(hold, state_with(waits=(wait, 0, 1)), 0, 0)
            self.assertEqual(found, (0, (wanted, 0, 0), (0, 0, 0), 8))

    def test_fails(self):
        hold = two_stoves(cap=9)
        # It was not lit, so it need not stay, and it takes no wood.
        self.assertEqual(behind_turn(hold, state_with(), 1, 1), (0, (0, 0, 0), (1, 0, 0), 8))
        self.assertEqual(behind_turn(hold, state_with(failed=(1, 0, 0)), 5, 1), (4, (0, 0, 1), (2, 0, 0), 7))
        # Lit at last, it has failed no more; left alone, it has failed as often as before.
        self.assertEqual(behind_turn(hold, state_with(failed=(2, 0, 0)), 1, 0), (1, (2, 0, 0), (0, 0, 0), 5))
        self.assertEqual(behind_turn(hold, state_with(failed=(1, 0, 0)), 4, 0), (4, (0, 0, 1), (1, 0, 0), 7))
        self.assertEqual(behind_turn(hold, state_with(failed=(1, 0, 0)), 1, 0), (1, (2, 0, 0), (0, 0, 0), 5))

    def test_heap(self):
        for cap, load, heap, order, wanted in (
            (9, 0, 9, 0, 9), (9, 0, 4, 5, 0), (9, 1, 9, 0, 9), (9, 30, 0, 0, 9), (9, 30, 4, 5, 9), (0, 0, 0, 0, 0),
            (0, 5, 0, 0, 0), (9, 2, 8, 0, 9), (9, 2, 7, 0, 9), (9, 2, 9, 4, 9), (9, 2, 9, 1, 8), (9, 2, 3, 1, 2),
        ):
            with self.subTest(cap=cap, load=load, heap=heap, order=order):
                hold = two_stoves(cap=cap, load=load)
                self.assertEqual(behind_turn(hold, state_with(heap=heap), order, 0)[3], wanted)

    def test_some_turns(self):
        source = random.Random(1)
        turns = 0
        for _ in range(600):
            hold = some_hold(source)
            state = some_state(source, hold)
            for order in orders_of(hold, state):
                may = may_fail(hold, state, order)
                self.assertEqual(may, plain_may_fail(hold, state, order))
                self.assertEqual(subsets(may), plain_parts(may))
                for out in subsets(may):
                    turns += 1
                    found = behind_turn(hold, state, order, out)
                    self.assertEqual(found, plain_behind(hold, state, order, out), (told(hold), state, order, out))
                    self.assertTrue(is_state(hold, (state[0],) + found))
        self.assertGreater(turns, 1000)

    def test_kinds(self):
        hold = two_stoves(cap=9)
        found = behind_turn(hold, state_with(), 1, 0)
        self.assertEqual([type(part) for part in found], [int, tuple, tuple, int])

    def test_as_the_hold_is_then(self):
        hold = two_stoves(cap=9)
        state = start_state(hold, (0, 0, 0), 9)
        hold.put_stove(0, (1, 1), wood=9, stay=3, fails=0)
        self.assertEqual(may_fail(hold, state, 1), 0)
        self.assertEqual(behind_turn(hold, state, 1, 0), (1, (3, 0, 0), (0, 0, 0), 0))
        self.assertEqual(behind_turn(hold_like(hold, load=1), state, 1, 0), (1, (3, 0, 0), (0, 0, 0), 1))


if __name__ == "__main__":
    unittest.main()
