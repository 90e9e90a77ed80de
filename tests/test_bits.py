import inspect
import random
import unittest

from stoke import bits as bits_module
from stoke.bits import bits_of, has_room, how_many, members, subsets, with_room, without_room

ROOMS = range(61)


def number_of(rooms):
    return sum(2 ** room for room in set(rooms))


def some_sets(most, many):
    source = random.Random(most)
    return [sorted(source.sample(ROOMS, source.randint(0, most))) for _ in range(many)]


SETS = [[], [0], [60], [0, 2], [0, 60], list(ROOMS), [59, 60], [1, 3, 5, 7]] + some_sets(61, 40)


class BitsTest(unittest.TestCase):
    def test_document_examples(self):
        self.assertEqual(members(0), [])
        self.assertEqual(members(5), [0, 2])
        self.assertEqual(bits_of([]), 0)
        self.assertEqual(bits_of([0, 2]), 5)

    def test_has_room(self):
        for rooms in SETS:
            number = number_of(rooms)
            for room in ROOMS:
                self.assertIs(has_room(number, room), room in rooms, (rooms, room))
                self.assertIs(has_room(number, room), (number // 2 ** room) % 2 == 1)

    def test_with_and_without_room(self):
        for rooms in SETS:
            number = number_of(rooms)
            for room in ROOMS:
                self.assertEqual(with_room(number, room), number_of(rooms + [room]), (rooms, room))
                rest = [other for other in rooms if other != room]
                self.assertEqual(without_room(number, room), number_of(rest), (rooms, room))

    def test_set_of_none(self):
        self.assertEqual(how_many(0), 0)
        self.assertEqual(members(0), [])
        self.assertEqual(subsets(0), [0])
        self.assertIs(has_room(0, 0), False)
        self.assertEqual(without_room(0, 60), 0)
        self.assertEqual(with_room(0, 60), 2 ** 60)

    def test_how_many_and_members(self):
        for rooms in SETS:
            self.assertEqual(how_many(number_of(rooms)), len(rooms), rooms)
            self.assertEqual(members(number_of(rooms)), rooms)

    def test_bits_of_any_order_and_several_times(self):
        for rooms in SETS:
            self.assertEqual(bits_of(rooms), number_of(rooms), rooms)
            self.assertEqual(bits_of(rooms[::-1]), number_of(rooms), rooms)
            self.assertEqual(bits_of(rooms + rooms), number_of(rooms), rooms)
        self.assertEqual(bits_of([3, 3, 3]), 8)
        self.assertEqual(bits_of([2, 0, 2, 60, 0]), 5 + 2 ** 60)
        self.assertEqual(bits_of([7] * 2000), 128)

    def test_subsets_of_small_numbers(self):
        for number in range(256):
            wanted = [part for part in range(256) if part & number == part]
            self.assertEqual(subsets(number), wanted, number)

    def test_subsets_of_eight_rooms(self):
        for rooms in ([0, 1, 2, 3, 4, 5, 6, 7], [53, 54, 55, 56, 57, 58, 59, 60], [0, 8, 9, 20, 31, 32, 33, 60]):
            number = number_of(rooms)
            parts = subsets(number)
            self.assertEqual(len(parts), 256)
            self.assertEqual(parts, sorted(set(parts)))
            self.assertTrue(all(part & number == part for part in parts))

    def test_subsets_of_far_rooms(self):
        for rooms in some_sets(8, 20):
            parts = subsets(number_of(rooms))
            self.assertEqual(len(parts), 2 ** len(rooms))
            self.assertEqual(parts, sorted(set(parts)))
            self.assertTrue(all(set(members(part)) <= set(rooms) for part in parts))


class OwnTest(unittest.TestCase):
    def test_told_lists_are_the_askers_own(self):
        members(5).append(9)
        self.assertEqual(members(5), [0, 2])
        subsets(5).clear()
        self.assertEqual(subsets(5), [0, 1, 4, 5])
        subsets(0).append(3)
        self.assertEqual(subsets(0), [0])
        members(0).append(3)
        self.assertEqual(members(0), [])

    def test_handed_in_list_is_not_changed(self):
        rooms = [4, 1, 4]
        bits_of(rooms)
        self.assertEqual(rooms, [4, 1, 4])

    def test_kinds(self):
        for told in (how_many(5), with_room(0, 1), without_room(5, 0), bits_of([1])):
            self.assertIs(type(told), int)
        self.assertIs(type(members(5)), list)
        self.assertIs(type(subsets(5)), list)


class InterfaceTest(unittest.TestCase):
    def test_names_and_arguments(self):
        rows = {
            "has_room": ["bits", "room"], "with_room": ["bits", "room"], "without_room": ["bits", "room"],
            "how_many": ["bits"], "members": ["bits"], "subsets": ["bits"], "bits_of": ["rooms"],
        }
        for name, wanted in rows.items():
            with self.subTest(name=name):
                self.assertEqual(list(inspect.signature(getattr(bits_module, name)).parameters), wanted)


if __name__ == "__main__":
    unittest.main()
