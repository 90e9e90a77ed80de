import random
import unittest

from stoke.holds import Hold, hold_like
from stoke.stoves import heeded, is_state, orders_of, start_state, wood_of
from tests.telling import (
    plain_bits, plain_heeded, plain_orders, plain_rooms, plain_wood, some_hold, some_state, told, whole_marks,
)

ALL = 2 ** 61 - 1


# Stoves in the rooms 0, 1 and 3, that take 3, 2 and 4.
def three_stoves(**bounds):
    hold = Hold(**bounds)
    for _ in range(4):
        hold.put_room(whole_marks(0, 10, 20))
    hold.put_stove(0, (1, 1), wood=3, stay=2)
    hold.put_stove(1, (1, 1), wood=2, stay=2)
    hold.put_stove(3, (1, 1), wood=4, stay=2)
    return hold


def state_with(burning, waits, heap):
    return ((0, 0, 0, 0), burning, waits, (0, 0, 0, 0), heap)


class WoodTest(unittest.TestCase):
    def test_wood(self):
        hold = three_stoves()
        wanted = [0, 3, 2, 5, 0, 3, 2, 5, 4, 7, 6, 9, 4, 7, 6, 9]
        self.assertEqual([wood_of(hold, bits) for bits in range(16)], wanted)

    def test_some_holds(self):
        source = random.Random(1)
        for _ in range(30):
            hold = some_hold(source)
            for bits in range(2 ** hold.many()):
                self.assertEqual(wood_of(hold, bits), plain_wood(hold, plain_rooms(bits)))


class OrdersTest(unittest.TestCase):
    def test_stoves_alone(self):
        hold = three_stoves(cap=9)
        self.assertEqual(orders_of(hold, start_state(hold, (0, 0, 0, 0), 9)), [0, 1, 2, 3, 8, 9, 10, 11])

    def test_wood(self):
        hold = three_stoves(cap=9)
        rows = {
            0: [0], 1: [0], 2: [0, 2], 3: [0, 1, 2], 4: [0, 1, 2, 8], 5: [0, 1, 2, 3, 8], 6: [0, 1, 2, 3, 8, 10],
            7: [0, 1, 2, 3, 8, 9, 10], 8: [0, 1, 2, 3, 8, 9, 10], 9: [0, 1, 2, 3, 8, 9, 10, 11],
        }
        for heap, wanted in rows.items():
            with self.subTest(heap=heap):
                self.assertEqual(orders_of(hold, start_state(hold, (0, 0, 0, 0), heap)), wanted)

    def test_most(self):
        rows = {0: [0], 1: [0, 1, 2, 8], 2: [0, 1, 2, 3, 8, 9, 10], 3: [0, 1, 2, 3, 8, 9, 10, 11]}
        for most, wanted in rows.items():
            with self.subTest(most=most):
                hold = three_stoves(most=most, cap=9)
                self.assertEqual(orders_of(hold, start_state(hold, (0, 0, 0, 0), 9)), wanted)

    def test_waits(self):
        hold = three_stoves(cap=9)
        self.assertEqual(orders_of(hold, state_with(0, (1, 0, 0, 0), 9)), [0, 2, 8, 10])
        self.assertEqual(orders_of(hold, state_with(1, (2, 0, 0, 0), 9)), [1, 3, 9, 11])
        self.assertEqual(orders_of(hold, state_with(1, (0, 0, 0, 0), 9)), [0, 1, 2, 3, 8, 9, 10, 11])
        self.assertEqual(orders_of(hold, state_with(3, (1, 2, 0, 1), 9)), [3])
        self.assertEqual(orders_of(hold, state_with(8, (1, 0, 0, 2), 9)), [8, 10])

    def test_no_order_at_all(self):
        hold = three_stoves(cap=9)
        self.assertEqual(orders_of(hold, state_with(3, (1, 1, 0, 0), 5)), [3])
        self.assertEqual(orders_of(hold, state_with(3, (1, 1, 0, 0), 4)), [])
        self.assertEqual(orders_of(hold, state_with(8, (0, 0, 0, 1), 3)), [])
        self.assertEqual(orders_of(hold, state_with(8, (0, 0, 0, 0), 3)), [0, 1, 2])

    def test_room_without_stoves(self):
        hold = Hold(cap=3)
        hold.put_room(whole_marks(0, 1))
        self.assertEqual(orders_of(hold, start_state(hold, (0,), 3)), [0])

    def test_some_states(self):
        source = random.Random(2)
        none = 0
        for _ in range(400):
            hold = some_hold(source)
            state = some_state(source, hold)
            self.assertTrue(is_state(hold, state))
            wanted = plain_orders(hold, state)
            none += wanted == []
            self.assertEqual(orders_of(hold, state), wanted, (told(hold), state))
        self.assertGreater(none, 10)

    def test_own(self):
        hold = three_stoves(cap=9)
        state = start_state(hold, (0, 0, 0, 0), 9)
        orders_of(hold, state).clear()
        self.assertEqual(len(orders_of(hold, state)), 8)
        hold.put_stove(0, (1, 1), wood=4)
        self.assertEqual(orders_of(hold, state), [0, 1, 2, 3, 8, 9, 10])
        hold.put_stove(2, (1, 1), wood=9)
        self.assertEqual(orders_of(hold, state), [0, 1, 2, 3, 4, 8, 9, 10])


class HeededTest(unittest.TestCase):
    def test_rooms_without_a_stove_or_that_are_none(self):
        hold = three_stoves(cap=9)
        state = start_state(hold, (0, 0, 0, 0), 9)
        for wish, wanted in ((0, 0), (4, 0), (2 ** 60, 0), (2 ** 4 + 2 ** 2 + 1, 1), (ALL, 11), (15, 11)):
            with self.subTest(wish=wish):
                self.assertEqual(heeded(hold, state, wish), wanted)

    def test_most_goes_room_by_room(self):
        for most, wanted in ((0, 0), (1, 1), (2, 3), (3, 11)):
            hold = three_stoves(most=most, cap=9)
            state = start_state(hold, (0, 0, 0, 0), 9)
            self.assertEqual(heeded(hold, state, ALL), wanted)
        self.assertEqual(heeded(three_stoves(most=1, cap=9), state_with(0, (0, 0, 0, 0), 9), 10), 2)

    def test_wood_goes_room_by_room(self):
        hold = three_stoves(cap=9)
        # Wood for a later room may be there, where an earlier one takes too much.
        rows = {0: 0, 1: 0, 2: 2, 3: 1, 4: 1, 5: 3, 6: 3, 7: 3, 8: 3, 9: 11}
        for heap, wanted in rows.items():
            with self.subTest(heap=heap):
                self.assertEqual(heeded(hold, start_state(hold, (0, 0, 0, 0), heap), ALL), wanted)
        self.assertEqual(heeded(hold, start_state(hold, (0, 0, 0, 0), 4), 10), 2)
        self.assertEqual(heeded(hold, start_state(hold, (0, 0, 0, 0), 4), 8), 8)

    def test_stoves_that_must_stay(self):
        hold = three_stoves(cap=9)
        self.assertEqual(heeded(hold, state_with(1, (1, 0, 0, 0), 9), 0), 1)
        self.assertEqual(heeded(hold, state_with(0, (1, 0, 0, 0), 9), ALL), 10)
        self.assertEqual(heeded(hold, state_with(1, (0, 0, 0, 0), 9), 0), 0)
        # The one that must go on has its wood, and its place among the most, first.
        self.assertEqual(heeded(hold, state_with(8, (0, 0, 0, 1), 6), ALL), 10)
        self.assertEqual(heeded(three_stoves(most=1, cap=9), state_with(8, (0, 0, 0, 1), 9), ALL), 8)
        self.assertEqual(heeded(three_stoves(most=2, cap=9), state_with(8, (0, 0, 0, 1), 9), ALL), 9)

    def test_no_order(self):
        hold = three_stoves(cap=9)
        for wish in (0, 3, 4, ALL):
            self.assertIsNone(heeded(hold, state_with(3, (1, 1, 0, 0), 4), wish))
            self.assertIsNone(heeded(hold, state_with(8, (0, 0, 0, 2), 3), wish))
        self.assertEqual(heeded(hold, state_with(3, (1, 1, 0, 0), 5), 0), 3)

    def test_stoves_without_wood(self):
        hold = hold_like(three_stoves())
        hold.put_stove(0, (1, 1), wood=0)
        self.assertEqual(heeded(hold, start_state(hold, (0, 0, 0, 0)), ALL), 1)

    def test_some_states(self):
        source = random.Random(3)
        for _ in range(300):
            hold = some_hold(source)
            state = some_state(source, hold)
            orders = orders_of(hold, state)
            for _ in range(10):
                wish = plain_bits(source.sample(range(61), source.randint(0, 4))) | source.randrange(16)
                found = heeded(hold, state, wish)
                self.assertEqual(found, plain_heeded(hold, state, wish), (told(hold), state, wish))
                self.assertIn(found, orders or [None])
            for order in orders:
                self.assertEqual(heeded(hold, state, order), order)
                self.assertEqual(heeded(hold, state, order + 2 ** 60), order)

    def test_as_the_hold_is_then(self):
        hold = three_stoves(cap=9)
        state = start_state(hold, (0, 0, 0, 0), 9)
        hold.put_stove(1, (1, 1), wood=9)
        self.assertEqual(heeded(hold, state, ALL), 9)


if __name__ == "__main__":
    unittest.main()
