import inspect
import unittest

from stoke import holds
from stoke.errors import Full, NoMarks, NoRoom, TooMany
from stoke.holds import Hold
from tests.telling import filled_hold, told, whole_marks

NONE_OF_THREE = (3, 4, 60, 10 ** 59, -1, -3, -10 ** 59)


def marks_for(bands):
    return whole_marks(*range(bands + 1))


class RoomsTest(unittest.TestCase):
    def refused(self, kind, hold, marks):
        ahead = told(hold)
        with self.assertRaises(kind) as caught:
            hold.put_room(marks)
        self.assertIs(type(caught.exception), kind)
        self.assertEqual(told(hold), ahead)

    def test_numbers_in_order(self):
        hold = Hold()
        self.assertEqual(hold.many(), 0)
        for room in range(4):
            self.assertEqual(hold.put_room(whole_marks(room, room + 1)), room)
            self.assertEqual(hold.many(), room + 1)
        self.assertEqual([hold.marks(room) for room in range(4)], [whole_marks(k, k + 1) for k in range(4)])

    def test_two_to_seven_marks(self):
        for many in range(2, 8):
            hold = Hold()
            marks = [(2 * step - 7, 3) if (2 * step - 7) % 3 else ((2 * step - 7) // 3, 1) for step in range(many)]
            self.assertEqual(hold.put_room(marks), 0)
            self.assertEqual(hold.marks(0), marks)

    def test_marks_of_thirty_figures(self):
        great = 10 ** 30 - 1
        marks = [(-great, 1), (great - 2, great - 1), (great - 1, great), (great, 1)]
        hold = Hold()
        hold.put_room(marks)
        self.assertEqual(hold.marks(0), marks)
        self.refused(NoMarks, hold, [(great - 1, great), (great - 2, great - 1)])

    def test_too_few_or_too_many_marks(self):
        for many in (0, 1, 8, 9, 2000):
            self.refused(NoMarks, Hold(), whole_marks(*range(many)))

    def test_marks_that_do_not_rise(self):
        for numbers in ((1, 1), (2, 1), (0, 1, 1), (0, 2, 1), (0, 0, 1), (3, 1, 2), (0, 1, 2, 3, 4, 5, 5)):
            self.refused(NoMarks, Hold(), whole_marks(*numbers))
        self.refused(NoMarks, Hold(), [(1, 2), (1, 3)])
        self.refused(NoMarks, Hold(), [(-1, 3), (-1, 2)])

    def test_full(self):
        hold = Hold()
        for _ in range(4):
            hold.put_room(marks_for(1))
        for marks in (marks_for(1), marks_for(6), [], marks_for(7), whole_marks(2, 1)):
            self.refused(Full, hold, marks)

    def test_product_of_bands(self):
        for bands in ((5, 5, 4, 4), (4, 5, 4, 5)):
            hold = Hold()
            for number in bands:
                hold.put_room(marks_for(number))
            self.assertEqual(hold.many(), 4)
        for ahead, last in (((6, 6, 6), 2), ((5, 5, 4), 5), ((6, 6, 4), 3), ((5, 5, 5), 4)):
            hold = Hold()
            for number in ahead:
                hold.put_room(marks_for(number))
            self.refused(TooMany, hold, marks_for(last))
            self.assertEqual(hold.put_room(marks_for(1)), 3)

    def test_marks_go_ahead_of_the_product(self):
        hold = Hold()
        for _ in range(3):
            hold.put_room(marks_for(6))
        for marks in ([], marks_for(0), marks_for(7), whole_marks(0, 1, 2, 2), whole_marks(5, 4, 3, 2)):
            self.refused(NoMarks, hold, marks)

    def test_none_of_its_rooms(self):
        hold = filled_hold()
        ahead = told(hold)
        for room in NONE_OF_THREE:
            for ask in (hold.marks, hold.sky, hold.stove):
                with self.assertRaises(NoRoom) as caught:
                    ask(room)
                self.assertEqual(caught.exception.room, room)
            for into, of, first in ((room, 0, room), (0, room, room), (room, 77, room), (room, room, room)):
                with self.assertRaises(NoRoom) as caught:
                    hold.share(into, of)
                self.assertEqual(caught.exception.room, first)
        self.assertEqual(told(hold), ahead)

    def test_no_room_at_all(self):
        for ask in (Hold().marks, Hold().sky, Hold().stove):
            with self.assertRaises(NoRoom) as caught:
                ask(0)
            self.assertEqual(caught.exception.room, 0)

    def test_a_new_room_has_nothing(self):
        hold = filled_hold()
        room = hold.put_room(whole_marks(0, 1))
        self.assertEqual(hold.sky(room), ((0, 1), (0, 1), (0, 1)))
        self.assertIsNone(hold.stove(room))
        self.assertEqual([hold.share(room, of) for of in range(4)], [(0, 1), (0, 1), (0, 1), (1, 1)])
        self.assertEqual([hold.share(into, room) for into in range(3)], [(0, 1)] * 3)

    def test_marks_are_copied(self):
        marks = whole_marks(0, 1, 2)
        hold = Hold()
        hold.put_room(marks)
        self.assertEqual(marks, whole_marks(0, 1, 2))
        marks.append((9, 1))
        marks[0] = (-9, 1)
        self.assertEqual(hold.marks(0), whole_marks(0, 1, 2))
        hold.marks(0).clear()
        hold.marks(0)[1] = (5, 1)
        self.assertEqual(hold.marks(0), whole_marks(0, 1, 2))

    def test_told_marks_stay(self):
        hold = filled_hold()
        marks = hold.marks(1)
        hold.put_room(whole_marks(0, 1))
        hold.put_stove(1, (1, 1))
        self.assertEqual(marks, whole_marks(1, 11, 21))


class InterfaceTest(unittest.TestCase):
    def test_names_and_arguments(self):
        rows = {
            "put_room": "(self, marks)", "put_flow": "(self, into, of, share)",
            "put_sky": "(self, room, share, low, high)",
            "put_stove": "(self, room, heat, wood=0, stay=0, fails=0)",
            "many": "(self)", "marks": "(self, room)", "share": "(self, into, of)",
            "sky": "(self, room)", "stove": "(self, room)",
        }
        for name, wanted in rows.items():
            with self.subTest(name=name):
                self.assertEqual(str(inspect.signature(getattr(Hold, name))), wanted)
        self.assertEqual(str(inspect.signature(Hold)), "(most=4, cap=0, load=0)")
        self.assertEqual(str(inspect.signature(holds.hold_like)), "(hold, most=None, cap=None, load=None)")


if __name__ == "__main__":
    unittest.main()
