import unittest

from stoke.errors import NoRoom, NoStove
from tests.telling import NO_WHOLE, filled_hold, hold_of, told

GREATEST = {"wood": 9, "stay": 3, "fails": 3}


class StovesTest(unittest.TestCase):
    def refused(self, kind, hold, *things, **named):
        ahead = told(hold)
        with self.assertRaises(kind) as caught:
            hold.put_stove(*things, **named)
        self.assertIs(type(caught.exception), kind)
        self.assertEqual(told(hold), ahead)
        return caught.exception

    def test_at_first_none(self):
        self.assertEqual([hold_of(4).stove(room) for room in range(4)], [None] * 4)

    def test_told(self):
        hold = hold_of(3)
        self.assertIsNone(hold.put_stove(1, (5, 2), 3, 2, 1))
        self.assertEqual([hold.stove(room) for room in range(3)], [None, ((5, 2), 3, 2, 1), None])

    def test_left_out(self):
        hold = hold_of(1)
        hold.put_stove(0, (5, 2))
        self.assertEqual(hold.stove(0), ((5, 2), 0, 0, 0))
        hold.put_stove(0, (5, 2), fails=2)
        self.assertEqual(hold.stove(0), ((5, 2), 0, 0, 2))
        hold.put_stove(0, (5, 2), stay=1, wood=4)
        self.assertEqual(hold.stove(0), ((5, 2), 4, 1, 0))

    def test_all_within_bounds(self):
        hold = hold_of(1)
        for wood in range(10):
            for stay in range(4):
                for fails in range(4):
                    hold.put_stove(0, (1, 3), wood, stay, fails)
                    self.assertEqual(hold.stove(0), ((1, 3), wood, stay, fails))

    def test_told_again(self):
        hold = filled_hold()
        hold.put_stove(0, (0, 1), 0, 3, 0)
        self.assertEqual(hold.stove(0), ((0, 1), 0, 3, 0))
        hold.put_stove(0, (10 ** 30 - 1, 1), 9, 0, 3)
        self.assertEqual(hold.stove(0), ((10 ** 30 - 1, 1), 9, 0, 3))
        self.assertEqual(hold.stove(2), ((0, 1), 0, 0, 0))

    def test_heat(self):
        hold = filled_hold()
        for heat in ((-1, 1), (-1, 10 ** 30 - 1), (1 - 10 ** 30, 7)):
            self.refused(NoStove, hold, 0, heat)
            self.refused(NoStove, hold, 1, heat, 1, 1, 1)
        hold.put_stove(1, (0, 1))
        self.assertEqual(hold.stove(1), ((0, 1), 0, 0, 0))

    def test_beyond_bounds(self):
        hold = filled_hold()
        for name, greatest in GREATEST.items():
            for number in (-1, greatest + 1, 10 ** 60, -10 ** 60):
                with self.subTest(name=name, number=number):
                    self.refused(NoStove, hold, 0, (1, 1), **{name: number})
                    self.refused(NoStove, hold, 1, (1, 1), **{name: number})

    def test_other_kinds(self):
        hold = filled_hold()
        for name in GREATEST:
            for thing in NO_WHOLE:
                with self.subTest(name=name, thing=thing):
                    self.refused(NoStove, hold, 0, (1, 1), **{name: thing})

    def test_no_room_goes_first(self):
        hold = filled_hold()
        for room in (3, -1, 10 ** 59, -10 ** 59):
            for things in (((1, 1),), ((-1, 1),), ((1, 1), 10), ((1, 1), None), ((1, 1), 0, True), ((1, 1), 0, 0, "")):
                self.assertEqual(self.refused(NoRoom, hold, room, *things).room, room)


if __name__ == "__main__":
    unittest.main()
