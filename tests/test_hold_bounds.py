import unittest

from stoke.errors import NoHold, StokeError
from stoke.holds import Hold, hold_like
from tests.telling import NO_WHOLE, filled_hold, hold_of, told, whole_marks

GREATEST = {"most": 4, "cap": 30, "load": 30}


class BoundsTest(unittest.TestCase):
    def test_left_out(self):
        hold = Hold()
        self.assertEqual((hold.most, hold.cap, hold.load), (4, 0, 0))

    def test_all_within_bounds(self):
        for name, greatest in GREATEST.items():
            for number in range(greatest + 1):
                self.assertEqual(getattr(Hold(**{name: number}), name), number)
        hold = Hold(1, 2, 3)
        self.assertEqual((hold.most, hold.cap, hold.load), (1, 2, 3))
        hold = Hold(0, 30, 30)
        self.assertEqual((hold.most, hold.cap, hold.load), (0, 30, 30))

    def test_beyond_bounds(self):
        for name, greatest in GREATEST.items():
            for number in (-1, greatest + 1, 10 ** 60, -10 ** 60):
                with self.subTest(name=name, number=number):
                    with self.assertRaises(NoHold) as caught:
                        Hold(**{name: number})
                    self.assertIsInstance(caught.exception, StokeError)

    def test_other_kinds(self):
        for name in GREATEST:
            for thing in NO_WHOLE:
                with self.subTest(name=name, thing=thing):
                    with self.assertRaises(NoHold):
                        Hold(**{name: thing})


class LikeTest(unittest.TestCase):
    def test_keeps_all(self):
        hold = filled_hold()
        for like in (hold_like(hold), hold_like(hold, None, None, None)):
            self.assertIs(type(like), Hold)
            self.assertIsNot(like, hold)
            self.assertEqual(told(like), told(hold))

    def test_other_bounds(self):
        hold = filled_hold()
        rows = (
            ({"most": 0}, (0, 12, 5)), ({"most": 4}, (4, 12, 5)), ({"cap": 0}, (2, 0, 5)), ({"cap": 30}, (2, 30, 5)),
            ({"load": 0}, (2, 12, 0)), ({"load": 30}, (2, 12, 30)), ({"most": None, "cap": 7}, (2, 7, 5)),
            ({"most": 1, "cap": 2, "load": 3}, (1, 2, 3)),
        )
        for bounds, wanted in rows:
            with self.subTest(bounds=bounds):
                ahead = told(hold)
                like = hold_like(hold, **bounds)
                self.assertEqual((like.most, like.cap, like.load), wanted)
                self.assertEqual(dict(told(like), bounds=None), dict(told(hold), bounds=None))
                self.assertEqual(told(hold), ahead)
        like = hold_like(hold, 3, 4, 5)
        self.assertEqual((like.most, like.cap, like.load), (3, 4, 5))

    def test_refused(self):
        hold = filled_hold()
        ahead = told(hold)
        for name, greatest in GREATEST.items():
            for thing in NO_WHOLE + (-1, greatest + 1, 10 ** 60, -10 ** 60):
                if thing is None:
                    continue
                with self.subTest(name=name, thing=thing):
                    with self.assertRaises(NoHold):
                        hold_like(hold, **{name: thing})
        self.assertEqual(told(hold), ahead)

    def test_empty_hold(self):
        like = hold_like(Hold(1, 2, 3))
        self.assertEqual(like.many(), 0)
        self.assertEqual(like.put_room(whole_marks(0, 1)), 0)

    def change_each_way(self, hold):
        hold.put_flow(0, 1, (1, 8))
        hold.put_flow(1, 0, (0, 1))
        hold.put_flow(2, 1, (1, 8))
        hold.put_sky(0, (1, 9), (0, 1), (1, 1))
        hold.put_sky(2, (1, 9), (0, 1), (1, 1))
        hold.put_stove(0, (1, 1), 1, 1, 3)
        hold.put_stove(1, (1, 1))
        hold.put_room(whole_marks(0, 1))

    def test_what_is_done_to_one_changes_nothing_of_the_other(self):
        for first in (True, False):
            hold = filled_hold()
            like = hold_like(hold, most=3)
            changed, other = (hold, like) if first else (like, hold)
            ahead = told(other)
            self.change_each_way(changed)
            self.assertEqual(told(other), ahead)
            self.assertNotEqual(told(changed)["shares"], ahead["shares"])
            self.change_each_way(other)
            self.assertEqual(dict(told(changed), bounds=None), dict(told(other), bounds=None))

    def test_a_hold_like_one_like_another(self):
        hold = hold_of(2, cap=3)
        middle = hold_like(hold, cap=4)
        last = hold_like(middle)
        middle.put_flow(0, 1, (1, 2))
        hold.put_stove(1, (1, 1))
        self.assertEqual((hold.cap, middle.cap, last.cap), (3, 4, 4))
        self.assertEqual((hold.share(0, 1), middle.share(0, 1), last.share(0, 1)), ((0, 1), (1, 2), (0, 1)))
        self.assertEqual((hold.stove(1), middle.stove(1), last.stove(1)), (((1, 1), 0, 0, 0), None, None))

    def test_two_holds_have_nothing_in_common(self):
        one = hold_of(2)
        other = hold_of(2)
        one.put_flow(0, 1, (1, 2))
        one.put_sky(1, (1, 2), (0, 1), (1, 1))
        one.put_stove(0, (1, 1))
        self.assertEqual(told(other), told(hold_of(2)))


if __name__ == "__main__":
    unittest.main()
