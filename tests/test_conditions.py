import inspect
import random
import unittest

from stoke import conditions
from stoke.conditions import both_of, burns, colder, one_of, rested, stocked, unlike

STATE = ((2, 0, 1), 5, (1, 0, 0), (0, 0, 0), 7)
GREAT = 10 ** 59


class OneTest(unittest.TestCase):
    def test_colder(self):
        rows = (
            (0, 3, True), (0, 2, False), (0, 1, False), (1, 1, True), (1, 0, False), (2, 2, True), (2, 1, False),
            (1, -1, False), (1, -GREAT, False), (0, GREAT, True),
        )
        for room, band, wanted in rows:
            with self.subTest(room=room, band=band):
                self.assertIs(colder(room, band)(STATE), wanted)

    def test_burns(self):
        self.assertEqual([burns(room)(STATE) for room in range(3)], [True, False, True])
        self.assertIs(burns(0)(STATE), True)
        self.assertIs(burns(1)(STATE), False)

    def test_rested(self):
        self.assertIs(rested(0)(STATE), False)
        self.assertIs(rested(1)(STATE), True)
        self.assertIs(rested(2)(STATE), True)

    def test_stocked(self):
        rows = ((0, True), (6, True), (7, True), (8, False), (-1, True), (-GREAT, True), (GREAT, False))
        for wood, wanted in rows:
            with self.subTest(wood=wood):
                self.assertIs(stocked(wood)(STATE), wanted)

    def test_asked_of_other_states(self):
        condition = colder(1, 2)
        self.assertEqual([condition(((9, band), 0, (0, 0), (0, 0), 0)) for band in (0, 1, 2, 3)], [True, True, False, False])
        condition = stocked(3)
        self.assertEqual([condition(((9,), 0, (0,), (0,), heap)) for heap in (2, 3, 2)], [False, True, False])


class TogetherTest(unittest.TestCase):
    def test_both_one_and_unlike(self):
        for one in (False, True):
            for other in (False, True):
                first = stocked(7 if one else 8)
                second = burns(0 if other else 1)
                self.assertIs(both_of(first, second)(STATE), one and other)
                self.assertIs(one_of(first, second)(STATE), one or other)
            self.assertIs(unlike(stocked(7 if one else 8))(STATE), not one)

    def test_a_condition_of_the_askers_own(self):
        own = lambda state: sum(state[0]) == 3
        self.assertIs(both_of(own, unlike(burns(1)))(STATE), True)
        self.assertIs(one_of(unlike(own), burns(1))(STATE), False)

    def some_condition(self, source, many):
        if many == 1:
            room = source.randrange(3)
            return source.choice((
                (colder(room, 2), lambda state: state[0][room] < 2),
                (burns(room), lambda state: state[1] // 2 ** room % 2 == 1),
                (rested(room), lambda state: state[2][room] == 0),
                (stocked(4), lambda state: state[4] >= 4),
            ))
        one, plain = self.some_condition(source, many - 1)
        other, plainer = self.some_condition(source, 1)
        return source.choice((
            (unlike(one), lambda state: not plain(state)),
            (both_of(one, other), lambda state: plain(state) and plainer(state)),
            (both_of(other, one), lambda state: plain(state) and plainer(state)),
            (one_of(one, other), lambda state: plain(state) or plainer(state)),
            (one_of(other, one), lambda state: plain(state) or plainer(state)),
        ))

    def test_forty_deep(self):
        source = random.Random(1)
        found = {True: 0, False: 0}
        for _ in range(40):
            condition, plain = self.some_condition(source, 40)
            for _ in range(10):
                bands = tuple(source.randrange(4) for _ in range(3))
                waits = tuple(source.randrange(2) for _ in range(3))
                state = (bands, source.randrange(8), waits, (0, 0, 0), source.randrange(9))
                wanted = plain(state)
                found[wanted] += 1
                self.assertIs(condition(state), wanted)
        self.assertGreater(min(found.values()), 50)


class InterfaceTest(unittest.TestCase):
    def test_names_and_arguments(self):
        rows = {
            "colder": "room band", "burns": "room", "rested": "room", "stocked": "wood", "both_of": "one other",
            "one_of": "one other", "unlike": "one",
        }
        for name, wanted in rows.items():
            with self.subTest(name=name):
                self.assertEqual(list(inspect.signature(getattr(conditions, name)).parameters), wanted.split())


if __name__ == "__main__":
    unittest.main()
