import unittest

from stoke.errors import NoRoom, NoShare, NoSky
from stoke.holds import Hold
from tests.telling import filled_hold, hold_of, told, whole_marks

GREAT = 10 ** 30 - 1


class Refusing(unittest.TestCase):
    def refused(self, kind, room, hold, deed, *things):
        ahead = told(hold)
        with self.assertRaises(kind) as caught:
            deed(*things)
        self.assertIs(type(caught.exception), kind)
        if room is not None:
            self.assertEqual(caught.exception.room, room)
        self.assertEqual(told(hold), ahead)


class FlowsTest(Refusing):
    def test_at_first_all_is_own_air(self):
        hold = hold_of(4)
        for into in range(4):
            for of in range(4):
                self.assertEqual(hold.share(into, of), (1, 1) if into == of else (0, 1))

    def test_flow_and_rest(self):
        hold = hold_of(3)
        self.assertIsNone(hold.put_flow(0, 1, (1, 4)))
        self.assertIsNone(hold.put_flow(0, 2, (1, 6)))
        self.assertEqual([hold.share(0, of) for of in range(3)], [(7, 12), (1, 4), (1, 6)])
        self.assertEqual([hold.share(1, of) for of in range(3)], [(0, 1), (1, 1), (0, 1)])
        self.assertEqual([hold.share(2, of) for of in range(3)], [(0, 1), (0, 1), (1, 1)])

    def test_flow_has_one_way(self):
        hold = hold_of(2)
        hold.put_flow(0, 1, (1, 4))
        self.assertEqual((hold.share(0, 1), hold.share(1, 0)), ((1, 4), (0, 1)))
        hold.put_flow(1, 0, (1, 1))
        self.assertEqual((hold.share(0, 1), hold.share(1, 0)), ((1, 4), (1, 1)))
        self.assertEqual((hold.share(0, 0), hold.share(1, 1)), ((3, 4), (0, 1)))

    def test_told_again(self):
        hold = hold_of(3)
        for share in ((3, 4), (1, 1), (0, 1), (1, 9), (1, 1)):
            hold.put_flow(2, 0, share)
            self.assertEqual(hold.share(2, 0), share)
            self.assertEqual(hold.share(2, 2), (share[1] - share[0], share[1]) if share[0] != share[1] else (0, 1))
            self.assertEqual(hold.share(2, 1), (0, 1))

    def test_just_one(self):
        hold = hold_of(4)
        hold.put_flow(1, 0, (1, 2))
        hold.put_flow(1, 2, (1, 3))
        hold.put_sky(1, (1, 12), (0, 1), (1, 1))
        self.refused(NoShare, 1, hold, hold.put_flow, 1, 3, (1, 11))
        hold.put_flow(1, 3, (1, 12))
        self.assertEqual(hold.share(1, 1), (0, 1))
        self.refused(NoShare, 1, hold, hold.put_flow, 1, 3, (1, 11))
        self.refused(NoShare, 1, hold, hold.put_flow, 1, 0, (GREAT // 2 + 1, GREAT))
        hold.put_flow(1, 0, (GREAT // 2, GREAT))
        hold.put_flow(1, 0, (1, 2))
        self.assertEqual(hold.share(1, 1), (0, 1))

    def test_more_than_one(self):
        hold = hold_of(2)
        for share in ((2, 1), (3, 2), (GREAT, GREAT - 1), (GREAT, 1)):
            self.refused(NoShare, 0, hold, hold.put_flow, 0, 1, share)
        hold.put_sky(0, (1, 2), (0, 1), (0, 1))
        self.refused(NoShare, 0, hold, hold.put_flow, 0, 1, (2, 3))
        hold.put_flow(1, 0, (2, 3))

    def test_below_nought(self):
        hold = hold_of(3)
        for share in ((-1, 1), (-1, GREAT), (-GREAT, 1), (-2, 3)):
            self.refused(NoShare, 2, hold, hold.put_flow, 2, 1, share)
        hold.put_flow(2, 0, (1, 2))
        self.refused(NoShare, 2, hold, hold.put_flow, 2, 0, (-1, 4))

    def test_no_room(self):
        hold = filled_hold()
        bad = (2, 1)
        for room in (3, -1, 10 ** 59, -10 ** 59):
            for share in ((0, 1), bad, (-1, 2)):
                self.refused(NoRoom, room, hold, hold.put_flow, room, 1, share)
                self.refused(NoRoom, room, hold, hold.put_flow, 1, room, share)
                self.refused(NoRoom, room, hold, hold.put_flow, room, 9, share)
                self.refused(NoRoom, room, hold, hold.put_flow, room, room, share)
        self.refused(NoRoom, 9, hold, hold.put_flow, 9, 8, bad)

    def test_both_are_one(self):
        hold = filled_hold()
        for room in range(3):
            for share in ((0, 1), (1, 2), (2, 1), (-1, 1)):
                self.refused(NoRoom, room, hold, hold.put_flow, room, room, share)


class SkiesTest(Refusing):
    def test_sky_and_rest(self):
        hold = hold_of(2)
        self.assertIsNone(hold.put_sky(1, (2, 5), (-7, 2), (11, 3)))
        self.assertEqual(hold.sky(1), ((2, 5), (-7, 2), (11, 3)))
        self.assertEqual(hold.sky(0), ((0, 1), (0, 1), (0, 1)))
        self.assertEqual((hold.share(1, 1), hold.share(1, 0), hold.share(0, 0)), ((3, 5), (0, 1), (1, 1)))

    def test_told_again(self):
        hold = hold_of(2)
        hold.put_flow(0, 1, (1, 4))
        for sky in (((3, 4), (1, 1), (2, 1)), ((1, 2), (-1, 1), (-1, 1)), ((0, 1), (5, 1), (6, 1)), ((3, 4), (0, 1), (0, 1))):
            hold.put_sky(0, *sky)
            self.assertEqual(hold.sky(0), sky)
            self.assertEqual(hold.share(0, 1), (1, 4))
        self.assertEqual(hold.share(0, 0), (0, 1))

    def test_low_and_high_alike(self):
        hold = hold_of(1)
        hold.put_sky(0, (1, 1), (-GREAT, GREAT - 1), (-GREAT, GREAT - 1))
        self.assertEqual(hold.sky(0), ((1, 1), (-GREAT, GREAT - 1), (-GREAT, GREAT - 1)))
        self.assertEqual(hold.share(0, 0), (0, 1))

    def test_no_sky(self):
        hold = filled_hold()
        for low, high in (((1, 1), (0, 1)), ((1, 2), (1, 3)), ((0, 1), (-1, GREAT)), ((GREAT, GREAT - 1), (1, 1))):
            for share in ((0, 1), (1, 6), (2, 1), (-1, 1)):
                self.refused(NoSky, None, hold, hold.put_sky, 0, share, low, high)

    def test_no_share(self):
        hold = hold_of(3)
        for share in ((-1, 1), (-1, GREAT), (2, 1), (GREAT, GREAT - 1)):
            self.refused(NoShare, 2, hold, hold.put_sky, 2, share, (0, 1), (1, 1))
        hold.put_flow(2, 0, (1, 2))
        hold.put_flow(2, 1, (1, 3))
        self.refused(NoShare, 2, hold, hold.put_sky, 2, (1, 5), (0, 1), (1, 1))
        hold.put_sky(2, (1, 6), (0, 1), (1, 1))
        self.refused(NoShare, 2, hold, hold.put_sky, 2, (1, 5), (3, 1), (4, 1))
        hold.put_sky(2, (1, 6), (3, 1), (4, 1))
        self.assertEqual(hold.share(2, 2), (0, 1))

    def test_no_room(self):
        hold = filled_hold()
        for room in (3, -1, 10 ** 59, -10 ** 59):
            self.refused(NoRoom, room, hold, hold.put_sky, room, (0, 1), (0, 1), (1, 1))
            self.refused(NoRoom, room, hold, hold.put_sky, room, (2, 1), (1, 1), (0, 1))

    def test_refused_may_be_asked_again(self):
        hold = hold_of(2)
        hold.put_flow(0, 1, (1, 1))
        self.refused(NoShare, 0, hold, hold.put_sky, 0, (1, 2), (0, 1), (1, 1))
        hold.put_flow(0, 1, (1, 2))
        hold.put_sky(0, (1, 2), (0, 1), (1, 1))
        self.assertEqual(hold.sky(0), ((1, 2), (0, 1), (1, 1)))


class ManyFiguresTest(unittest.TestCase):
    def test_rest_is_exact(self):
        hold = Hold()
        for _ in range(4):
            hold.put_room(whole_marks(0, 1))
        for of, bottom in ((1, GREAT), (2, GREAT - 1), (3, GREAT - 2)):
            hold.put_flow(0, of, (1, bottom))
        hold.put_sky(0, (1, GREAT - 4), (0, 1), (0, 1))
        top, bottom = hold.share(0, 0)
        parts = (GREAT, GREAT - 1, GREAT - 2, GREAT - 4)
        whole = parts[0] * parts[1] * parts[2] * parts[3]
        rest = whole - sum(whole // part for part in parts)
        self.assertEqual(top * whole, rest * bottom)


if __name__ == "__main__":
    unittest.main()
