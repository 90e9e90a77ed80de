import inspect
import random
import unittest

from stoke.aparts import Apart
from stoke.conditions import burns, colder, rested, stocked
from stoke.courses import course_of
from stoke.errors import TooMany
from stoke.fates import fates_of
from stoke.games import ranks_of
from stoke.keepers import Below, Clock, Either, Keeper, Pair, Ruled, Sills, Table, Together
from stoke.makers import made_keeper
from stoke.parts import only_rooms, parts_of, portion, rank_apart
from stoke.stoves import start_state
from tests.telling import (
    hold_of, parted_hold, plain_bits, plain_rooms, refused, some_groups, some_keeper, some_state, told, wide_rooms,
)

# Bands 3, 1, 2, 0; the stoves of the rooms 0, 1 and 3 burn.
STATE = ((3, 1, 2, 0), 0b1011, (1, 0, 2, 3), (0, 0, 1, 2), 7)


def sized(size):
    keeper = Keeper()
    for _ in range(size - 1):
        keeper = Table({}, keeper)
    return keeper


class WishTest(unittest.TestCase):
    def test_no_rows(self):
        keeper = Apart([])
        self.assertEqual((keeper.minds(), keeper.size()), (1, 1))
        self.assertEqual((keeper.wish(0, STATE), keeper.after(0, STATE)), (0, 0))

    def test_rooms_are_numbered_anew(self):
        self.assertEqual(Apart([([2], Clock([1]))]).wish(0, STATE), 0b0100)
        self.assertEqual(Apart([([1, 3], Clock([1]))]).wish(0, STATE), 0b0010)
        self.assertEqual(Apart([([1, 3], Clock([2]))]).wish(0, STATE), 0b1000)
        self.assertEqual(Apart([([0, 2, 3], Clock([6]))]).wish(0, STATE), 0b1100)
        self.assertEqual(Apart([([0, 1, 2, 3], Clock([9]))]).wish(0, STATE), 0b1001)

    def test_all_that_they_wish(self):
        keeper = Apart([([0, 3], Clock([2])), ([1], Clock([0])), ([2], Clock([1]))])
        self.assertEqual(keeper.wish(0, STATE), 0b1100)

    def test_each_looks_at_its_portion(self):
        for rooms in ([0], [3], [0, 2], [1, 3], [0, 1, 2, 3]):
            seen = []
            keeper = Apart([(rooms, Ruled([(0, lambda state: seen.append(state) or True)]))])
            self.assertEqual(keeper.wish(0, STATE), 2 ** rooms[0])
            self.assertEqual(seen, [portion(STATE, rooms)])

    def test_keepers_of_each_class(self):
        for inner, wanted in (
            (Keeper(), []), (Ruled([(0, colder(0, 2)), (1, stocked(8))]), [1]), (Ruled([(1, burns(1))]), [3]),
            (Ruled([(0, rested(0))]), [1]), (Sills({0: (1, 2), 1: (1, 1)}), [1, 3]), (Clock([2, 1]), [3]),
            (Table({portion(STATE, [1, 3]): 3}), [1, 3]), (Table({STATE: 3}), []), (Pair(Clock([1]), Keeper()), [1]),
            (Either(Clock([1]), Clock([2])), [1, 3]), (Together(Clock([3]), Clock([2])), [3]),
            (Below(1, 1, Clock([1]), Clock([2])), [1]), (Below(0, 1, Clock([1]), Clock([2])), [3]),
            (Apart([([1], Clock([1]))]), [3]), (Apart([([0], Clock([1])), ([1], Clock([0]))]), [1]),
        ):
            with self.subTest(inner=type(inner).__name__, wanted=wanted):
                self.assertEqual(plain_rooms(Apart([([1, 3], inner)]).wish(0, STATE)), wanted)

    def test_within_other_keepers(self):
        apart = Apart([([1], Clock([1, 0])), ([2], Clock([1]))])
        self.assertEqual(Either(apart, Clock([1])).wish(0, STATE), 0b0111)
        self.assertEqual(Together(apart, Clock([5])).wish(0, STATE), 0b0100)
        self.assertEqual(Below(3, 1, apart, Keeper()).wish(0, STATE), 0b0110)
        self.assertEqual(Pair(apart, Clock([0, 0, 0])).minds(), 6)
        self.assertEqual(Table({}, apart).wish(0, STATE), 0b0110)
        self.assertEqual(Table({STATE: 8}, apart).wish(0, STATE), 8)

    def test_apart_of_one_another(self):
        inner = Apart([([0], Clock([1])), ([2], Clock([1]))])
        self.assertEqual(Apart([([0, 1, 3], inner)]).wish(0, STATE), 0b1001)


class MindTest(unittest.TestCase):
    def test_a_mind_for_each_choice(self):
        keeper = Apart([([0], Clock([0, 1])), ([1], Keeper()), ([2], Clock([0, 0, 1])), ([3], Clock([0, 1, 1, 1]))])
        self.assertEqual((keeper.minds(), keeper.size()), (24, 5))
        # From mind 0, with all at 0, all go on: each wishes as it would alone.
        mind = 0
        met = []
        for turn in range(24):
            wished = [(0, turn % 2 == 1), (2, turn % 3 == 2), (3, turn % 4 > 0)]
            self.assertEqual(keeper.wish(mind, STATE), plain_bits([room for room, wish in wished if wish]))
            met.append(mind)
            mind = keeper.after(mind, STATE)
            self.assertIn(mind, range(24))
            if turn == 11:
                self.assertEqual(mind, 0)
        self.assertEqual(len(set(met)), 12)

    def test_each_choice_is_a_mind(self):
        wishes = [[1, 0], [1, 0, 0], [1, 0, 0, 0]]
        keeper = Apart([([room], Clock(wishes[room])) for room in range(3)])
        # Each keeper wishes in one mind alone: of all minds, one wishes all, one times two the last two, and so on.
        found = [keeper.wish(mind, STATE) for mind in range(keeper.minds())]
        self.assertEqual(found.count(7), 1)
        self.assertEqual(found[0], 7)
        self.assertEqual([sum(wish // 2 ** room % 2 for wish in found) for room in range(3)], [12, 8, 6])
        # All go on, each by itself: minds go round, and no two minds have one mind behind.
        self.assertEqual(sorted(keeper.after(mind, STATE) for mind in range(24)), list(range(24)))

    def test_minds_behind_go_by_the_portion(self):
        class Watchful(Keeper):
            def minds(self):
                return 4

            # The mind behind is the band of its own room 0.
            def after(self, mind, state):
                return state[0][0]

            def wish(self, mind, state):
                return 1 if mind == state[0][0] else 0

        keeper = Apart([([2, 3], Watchful()), ([1], Clock([0, 1, 1])), ([0], Watchful())])
        self.assertEqual(keeper.minds(), 48)
        self.assertEqual(keeper.wish(0, STATE), 0)
        mind = keeper.after(0, STATE)
        self.assertEqual(keeper.wish(mind, STATE), 0b0111)
        self.assertEqual(keeper.wish(keeper.after(mind, STATE), STATE), 0b0111)
        self.assertEqual(keeper.wish(keeper.after(keeper.after(mind, STATE), STATE), STATE), 0b0101)

    def test_kinds(self):
        keeper = Apart([([0], Clock([1, 1]))])
        self.assertIsInstance(keeper, Keeper)
        for found in (keeper.minds(), keeper.size(), keeper.wish(1, STATE), keeper.after(1, STATE)):
            self.assertIs(type(found), int)


class SizeTest(unittest.TestCase):
    def test_size(self):
        self.assertEqual(Apart([([0], sized(3)), ([1], sized(2))]).size(), 6)
        self.assertEqual(Apart([([0], Apart([([0], Keeper())]))]).size(), 3)

    def test_just_sixty_minds(self):
        clocks = [Clock([0] * many) for many in (3, 4, 5)]
        rows = [([room], clock) for room, clock in enumerate(clocks)]
        self.assertEqual(Apart(rows).minds(), 60)
        self.assertEqual(Apart(rows + [([3], Keeper())]).minds(), 60)
        refused(self, TooMany, lambda: Apart(rows + [([3], Clock([0, 0]))]))
        refused(self, TooMany, lambda: Apart([([0], Clock([0] * 8)), ([1], Clock([0] * 8))]))
        self.assertEqual(Apart(rows).minds(), 60)
        refused(self, TooMany, lambda: Either(Apart(rows), Clock([0, 0])))

    def test_sixty_one_minds(self):
        # No clock has so many: 61 is no product of such, 62 is of 2 and 31.
        thirty = Pair(Clock([0] * 5), Clock([0] * 6))
        self.assertEqual(Apart([([0], thirty), ([1], Clock([0, 0]))]).minds(), 60)
        thirty_two = Pair(Clock([0] * 8), Clock([0] * 4))
        refused(self, TooMany, lambda: Apart([([0], thirty_two), ([1], Clock([0, 0]))]))

    def test_a_size_of_just_fifteen(self):
        self.assertEqual(Apart([([0], sized(14))]).size(), 15)
        refused(self, TooMany, lambda: Apart([([0], sized(15))]))
        self.assertEqual(Apart([([0], sized(7)), ([1], sized(7))]).size(), 15)
        refused(self, TooMany, lambda: Apart([([0], sized(7)), ([1], sized(8))]))
        self.assertEqual(Apart([([room], sized(1)) for room in range(14)]).size(), 15)
        refused(self, TooMany, lambda: Apart([([room], sized(1)) for room in range(15)]))
        refused(self, TooMany, lambda: Table({}, Apart([([0], sized(14))])))

    def test_own_keepers_are_not_changed(self):
        clock = Clock([1, 0])
        Apart([([1], clock)])
        self.assertEqual((clock.minds(), clock.wish(0, STATE)), (2, 1))


class OwnTest(unittest.TestCase):
    def test_lists_that_are_changed_behind(self):
        rooms = [1, 3]
        rows = [(rooms, Clock([3]))]
        keeper = Apart(rows)
        rooms.clear()
        rows.clear()
        self.assertEqual(keeper.wish(0, STATE), 0b1010)
        self.assertEqual(keeper.size(), 2)
        rooms.extend([0, 2])
        self.assertEqual(keeper.wish(0, STATE), 0b1010)

    def test_handed_in_lists_are_not_changed(self):
        clock = Clock([3])
        rows = [([1, 3], clock), ([0], clock)]
        Apart(rows).wish(0, STATE)
        self.assertEqual(rows, [([1, 3], clock), ([0], clock)])


class CourseTest(unittest.TestCase):
    # Apart, each keeper does in its part what it would do there alone.
    def test_course_apart(self):
        source = random.Random(1)
        asked = 0
        while asked < 40:
            hold = parted_hold(source, some_groups(source, source.randint(2, 3)), most_bands=2)
            parts = parts_of(hold)
            keepers = [some_keeper(source, only_rooms(hold, rooms), 1) for rooms in parts]
            state = some_state(source, hold)
            try:
                keeper = Apart(list(zip(parts, keepers)))
                course = course_of(hold, keeper, [(state, 0)], 800)
            except TooMany:
                continue
            asked += 1
            for rooms, inner in zip(parts, keepers):
                alone = course_of(only_rooms(hold, rooms), inner, [(portion(state, rooms), 0)])
                found = {portion(each, rooms) for each, _ in course}
                self.assertLessEqual(found, {each for each, _ in alone})
            # And it is ill as soon as the first of them is.
            fates = [
                fates_of(only_rooms(hold, rooms), inner, [(portion(state, rooms), 0)])[(portion(state, rooms), 0)]
                for rooms, inner in zip(parts, keepers)
            ]
            wanted = min([fate for fate in fates if fate is not None], default=None)
            self.assertEqual(fates_of(hold, keeper, [(state, 0)])[(state, 0)], wanted, told(hold))

    # The keepers made for the parts, apart, last as long as the one made for the whole.
    def test_made_keepers_apart(self):
        source = random.Random(2)
        seen = {True: 0, False: 0}
        while min(seen.values()) < 40:
            hold = parted_hold(source, some_groups(source, source.randint(1, 4)), most_bands=2)
            state = some_state(source, hold)
            try:
                rank = ranks_of(hold, [state], 500)[state]
            except TooMany:
                continue
            made = []
            for rooms in parts_of(hold):
                made.append((rooms, made_keeper(only_rooms(hold, rooms), [portion(state, rooms)])))
            fates = fates_of(hold, Apart(made), [(state, 0)])
            whole = fates_of(hold, made_keeper(hold, [state]), [(state, 0)])
            self.assertEqual(fates[(state, 0)], rank, told(hold))
            self.assertEqual(whole[(state, 0)], rank)
            self.assertEqual(rank_apart(hold, state), rank)
            seen[rank is None] += 1

    def test_more_states_than_the_whole_can_be_made_for(self):
        hold = wide_rooms((4, 4, 5, 5), cap=5)
        for room in range(4):
            hold.put_stove(room, (0, 1))
        state = start_state(hold, (0, 0, 0, 0))
        refused(self, TooMany, lambda: made_keeper(hold, [state]))
        made = [([room], made_keeper(only_rooms(hold, [room]), [portion(state, [room])])) for room in range(4)]
        self.assertIsNone(fates_of(hold, Apart(made), [(state, 0)])[(state, 0)])

    def test_rows_of_some_rooms_alone(self):
        hold = hold_of(3)
        hold.put_stove(1, (1, 1))
        state = start_state(hold, (0, 0, 0))
        self.assertEqual(Apart([([1], Clock([1]))]).wish(0, state), 2)


class InterfaceTest(unittest.TestCase):
    def test_names_and_arguments(self):
        self.assertEqual(list(inspect.signature(Apart).parameters), ["rows"])
        self.assertTrue(issubclass(Apart, Keeper))
        self.assertFalse(issubclass(Apart, Pair))
        rows = {"minds": "self", "size": "self", "wish": "self mind state", "after": "self mind state"}
        for name, wanted in rows.items():
            self.assertEqual(list(inspect.signature(getattr(Apart, name)).parameters), wanted.split())


if __name__ == "__main__":
    unittest.main()
