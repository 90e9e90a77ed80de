import unittest

from stoke import errors

PLAIN = (
    "NoNumber", "NoHold", "Full", "NoMarks", "TooMany", "NoSky", "NoStove", "NoState", "Ended", "NoOrder",
    "NoFailing", "NotOut", "NoKeeper", "NotKept", "Shared", "NoText", "NoLine", "NoName", "Twice",
)
WITH_ROOM = ("NoRoom", "NoShare")
WITH_ROOM_AND_TURN = ("NoTurn", "NoBand")
ALL = PLAIN + WITH_ROOM + WITH_ROOM_AND_TURN


class RefusalsTest(unittest.TestCase):
    def test_base_stands_under_value_error(self):
        self.assertEqual(errors.StokeError.__bases__, (ValueError,))

    def test_each_stands_under_the_base_alone(self):
        for name in ALL:
            with self.subTest(name=name):
                self.assertEqual(getattr(errors, name).__bases__, (errors.StokeError,))

    def test_none_stands_under_another_one(self):
        for name in ALL:
            for other in ALL:
                if name != other:
                    with self.subTest(name=name, other=other):
                        self.assertFalse(issubclass(getattr(errors, name), getattr(errors, other)))

    def test_plain_ones_are_made_of_nothing_or_of_words(self):
        for name in PLAIN:
            with self.subTest(name=name):
                for args in ((), ("words",)):
                    with self.assertRaises(errors.StokeError) as caught:
                        raise getattr(errors, name)(*args)
                    self.assertEqual(type(caught.exception).__name__, name)

    def test_room_is_kept(self):
        for name in WITH_ROOM:
            for room in (0, 3, -1, 10 ** 60):
                with self.subTest(name=name, room=room):
                    self.assertEqual(getattr(errors, name)(room).room, room)
                    self.assertEqual(getattr(errors, name)(room=room).room, room)

    def test_room_and_turn_are_kept(self):
        for name in WITH_ROOM_AND_TURN:
            with self.subTest(name=name):
                error = getattr(errors, name)(2, 17)
                self.assertEqual((error.room, error.turn), (2, 17))
                error = getattr(errors, name)(turn=0, room=3)
                self.assertEqual((error.room, error.turn), (3, 0))

    def test_values_belong_to_each_error_by_itself(self):
        first = errors.NoRoom(1)
        second = errors.NoRoom(2)
        self.assertEqual((first.room, second.room), (1, 2))


if __name__ == "__main__":
    unittest.main()
