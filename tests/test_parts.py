import inspect
import random
import unittest

from stoke import parts
from stoke.errors import NoRoom, NoState, Shared, TooMany
from stoke.games import ranks_of
from stoke.holds import Hold, hold_like
from stoke.parts import only_rooms, parts_of, portion, rank_apart
from stoke.stoves import is_state, start_state
from tests.telling import (
    exact, hold_of, parted_hold, plain_bits, plain_rooms, refused, some_groups, some_hold, some_state, told,
    whole_marks, wide_rooms,
)

GREAT = 10 ** 59


# Each two rooms of which one takes of the other, and then all that can be come to by such.
def plain_part(hold, room):
    part = {room}
    for _ in range(hold.many()):
        for one in range(hold.many()):
            for other in range(hold.many()):
                if one != other and exact(hold.share(one, other)) > 0 and part & {one, other}:
                    part |= {one, other}
    return sorted(part)


def cooling_hold(rooms, most=4, **stove):
    hold = Hold(most)
    for room in range(rooms):
        hold.put_room(whole_marks(0, 10, 20))
        hold.put_sky(room, (1, 6), (-60, 1), (-60, 1))
        hold.put_stove(room, (12, 1), **stove)
    return hold


class PartsTest(unittest.TestCase):
    def test_none_hang_together(self):
        for rooms in (1, 2, 3, 4):
            self.assertEqual(parts_of(hold_of(rooms)), [[room] for room in range(rooms)])

    def test_a_share_in_one_way_only(self):
        for into, of in ((0, 2), (2, 0)):
            hold = hold_of(3)
            hold.put_flow(into, of, (1, 10 ** 29))
            self.assertEqual(parts_of(hold), [[0, 2], [1]])

    def test_by_a_third_room(self):
        # Two rooms that both take of a third, of which both take, and one after the other.
        for flows in (((0, 3), (1, 3)), ((3, 0), (3, 1)), ((0, 3), (3, 1))):
            hold = hold_of(4)
            for into, of in flows:
                hold.put_flow(into, of, (1, 4))
            self.assertEqual(parts_of(hold), [[0, 1, 3], [2]])

    def test_all_hang_together(self):
        hold = hold_of(4)
        for into, of in ((3, 1), (0, 2), (2, 1)):
            hold.put_flow(into, of, (1, 4))
        self.assertEqual(parts_of(hold), [[0, 1, 2, 3]])

    def test_two_of_two(self):
        hold = hold_of(4)
        hold.put_flow(3, 0, (1, 4))
        hold.put_flow(1, 2, (1, 4))
        self.assertEqual(parts_of(hold), [[0, 3], [1, 2]])

    def test_a_share_that_is_nought_again(self):
        hold = hold_of(2)
        hold.put_flow(0, 1, (1, 4))
        self.assertEqual(parts_of(hold), [[0, 1]])
        hold.put_flow(0, 1, (0, 1))
        self.assertEqual(parts_of(hold), [[0], [1]])

    def test_skies_and_stoves_are_no_shares_of_rooms(self):
        hold = hold_of(2)
        for room in (0, 1):
            hold.put_sky(room, (1, 1), (0, 1), (9, 1))
            hold.put_stove(room, (1, 1), 9)
        self.assertEqual(parts_of(hold), [[0], [1]])

    def test_some_holds(self):
        source = random.Random(1)
        seen = set()
        for _ in range(200):
            if source.random() < 0.5:
                hold = some_hold(source)
            else:
                hold = parted_hold(source, some_groups(source, source.randint(1, 4)))
            found = parts_of(hold)
            wanted = []
            for room in range(hold.many()):
                if plain_part(hold, room) not in wanted:
                    wanted.append(plain_part(hold, room))
            self.assertEqual(found, wanted, told(hold))
            self.assertEqual((type(found), type(found[0])), (list, list))
            seen.add(tuple(sorted(len(part) for part in found)))
        for sizes in ((1,), (2,), (1, 1), (3,), (1, 2), (1, 1, 1), (4,), (1, 3), (2, 2), (1, 1, 2), (1, 1, 1, 1)):
            self.assertIn(sizes, seen)


class OnlyTest(unittest.TestCase):
    def check(self, hold, rooms):
        only = only_rooms(hold, rooms)
        self.assertIs(type(only), Hold)
        whole = told(hold)
        self.assertEqual(told(only)["bounds"], whole["bounds"])
        for key in ("marks", "skies", "stoves"):
            self.assertEqual(told(only)[key], [whole[key][room] for room in rooms])
        self.assertEqual(told(only)["shares"], [[whole["shares"][into][of] for of in rooms] for into in rooms])

    def test_one_room(self):
        hold = hold_of(3, most=2, cap=9, load=3)
        hold.put_sky(1, (1, 2), (-3, 1), (4, 1))
        hold.put_stove(1, (7, 3), 4, 2, 1)
        hold.put_flow(0, 2, (1, 5))
        self.check(hold, [1])
        self.assertEqual(only_rooms(hold, [1]).stove(0), ((7, 3), 4, 2, 1))

    def test_all_rooms(self):
        source = random.Random(2)
        for _ in range(30):
            hold = some_hold(source)
            self.check(hold, list(range(hold.many())))

    def test_rooms_of_several_parts(self):
        source = random.Random(3)
        for _ in range(60):
            bounds = {"most": source.randint(0, 4), "cap": source.randint(0, 30), "load": source.randint(0, 9)}
            hold = parted_hold(source, some_groups(source, 4), **bounds)
            for chosen in range(1, 2 ** len(parts_of(hold))):
                picked = [part for place, part in enumerate(parts_of(hold)) if place in plain_rooms(chosen)]
                self.check(hold, sorted(room for part in picked for room in part))

    def test_no_room(self):
        hold = hold_of(3)
        for rooms, wrong in (
            ([3], 3), ([0, 3], 3), ([0, 1, 2, 3, 4], 3), ([-1, 0], -1), ([-2, -1], -2), ([-1, 7], -1), ([1, 4, 5], 4),
            ([0, GREAT], GREAT), ([-GREAT, 0, 1], -GREAT),
        ):
            with self.subTest(rooms=rooms):
                with self.assertRaises(NoRoom) as caught:
                    only_rooms(hold, rooms)
                self.assertEqual(caught.exception.room, wrong)

    def test_shared(self):
        hold = hold_of(3)
        hold.put_flow(0, 2, (1, 10 ** 29))
        for rooms in ([0], [2], [0, 1], [1, 2]):
            refused(self, Shared, lambda: only_rooms(hold, rooms))
        for rooms in ([1], [0, 2], [0, 1, 2]):
            self.check(hold, rooms)
        hold.put_flow(0, 2, (0, 1))
        for rooms in ([0], [2], [0, 1], [1, 2]):
            self.check(hold, rooms)

    def test_no_room_ahead_of_shared(self):
        hold = hold_of(2)
        hold.put_flow(0, 1, (1, 2))
        refused(self, Shared, lambda: only_rooms(hold, [0]))
        refused(self, NoRoom, lambda: only_rooms(hold, [0, 2]))
        refused(self, NoRoom, lambda: only_rooms(hold, [-1, 0]))

    def test_each_goes_its_own_way(self):
        hold = hold_of(2)
        hold.put_stove(1, (3, 1))
        rooms = [1]
        only = only_rooms(hold, rooms)
        ahead = told(only)
        hold.put_stove(1, (4, 1), 2)
        hold.put_sky(1, (1, 1), (0, 1), (0, 1))
        hold.put_flow(0, 1, (1, 2))
        rooms.append(0)
        self.assertEqual(told(only), ahead)
        whole = told(hold)
        only.put_room(whole_marks(0, 1))
        only.put_stove(0, (9, 1))
        only.put_sky(0, (0, 1), (0, 1), (0, 1))
        self.assertEqual(told(hold), whole)

    def test_handed_in_list_is_not_changed(self):
        rooms = [0, 2]
        only_rooms(hold_of(3), rooms)
        portion(start_state(hold_of(3), (0, 0, 0)), rooms)
        self.assertEqual(rooms, [0, 2])


class PortionTest(unittest.TestCase):
    def test_ordinary(self):
        state = ((3, 1, 2, 0), 0b1011, (1, 0, 2, 3), (0, 0, 1, 2), 7)
        self.assertEqual(portion(state, [0]), ((3,), 1, (1,), (0,), 7))
        self.assertEqual(portion(state, [2]), ((2,), 0, (2,), (1,), 7))
        self.assertEqual(portion(state, [3]), ((0,), 1, (3,), (2,), 7))
        self.assertEqual(portion(state, [1, 3]), ((1, 0), 3, (0, 3), (0, 2), 7))
        self.assertEqual(portion(state, [0, 2]), ((3, 2), 1, (1, 2), (0, 1), 7))
        self.assertEqual(portion(state, [0, 1, 2, 3]), state)

    def test_is_not_looked_at(self):
        state = ((GREAT, -GREAT), 2, (-1, 99), (5, 5), -GREAT)
        self.assertEqual(portion(state, [1]), ((-GREAT,), 1, (99,), (5,), -GREAT))

    def test_is_a_state_of_the_part(self):
        source = random.Random(4)
        for _ in range(60):
            hold = parted_hold(source, some_groups(source, 4), cap=5, most_wood=3)
            state = some_state(source, hold)
            for rooms in parts_of(hold):
                found = portion(state, rooms)
                self.assertTrue(is_state(only_rooms(hold, rooms), found))
                self.assertEqual([type(each) for each in found], [tuple, int, tuple, tuple, int])
                for part in (0, 2, 3):
                    self.assertEqual(list(found[part]), [state[part][room] for room in rooms])
                burning = [rooms[place] for place in plain_rooms(found[1])]
                self.assertEqual(plain_bits(burning), state[1] & plain_bits(rooms))


class RankTest(unittest.TestCase):
    def rank(self, hold, state):
        return ranks_of(hold, [state])[state]

    def test_the_least_of_the_parts(self):
        hold = Hold()
        for heat in (12, 9):
            room = hold.put_room(whole_marks(0, 10, 20))
            hold.put_sky(room, (1, 6), (-60, 1), (-60, 1))
            hold.put_stove(room, (heat, 1))
        # The first room is kept, the second one is ill, sooner from its lower band.
        self.assertIsNone(rank_apart(only_rooms(hold, [0]), start_state(only_rooms(hold, [0]), (0,))))
        for bands in ((0, 0), (1, 0), (0, 1), (1, 1)):
            state = start_state(hold, bands)
            self.assertEqual(rank_apart(hold, state), self.rank(hold, state))
            self.assertEqual(rank_apart(hold, state), self.rank(only_rooms(hold, [1]), portion(state, [1])))
        self.assertNotEqual(rank_apart(hold, start_state(hold, (0, 0))), rank_apart(hold, start_state(hold, (0, 1))))

    def test_none_where_all_are_kept(self):
        for rooms in (1, 2, 3, 4):
            hold = cooling_hold(rooms)
            self.assertIsNone(rank_apart(hold, start_state(hold, (0,) * rooms)))

    def test_some_holds(self):
        source = random.Random(5)
        seen = {}
        asked = 0
        while asked < 160:
            groups = some_groups(source, source.choice((1, 2, 3, 4, 4)))
            hold = parted_hold(source, groups, most_bands=2, cap=source.randint(0, 2), load=source.randint(0, 1))
            state = some_state(source, hold)
            try:
                wanted = self.rank(hold, state)
            except TooMany:
                continue
            asked += 1
            self.assertEqual(rank_apart(hold, state), wanted, told(hold))
            key = (len(groups), wanted is None)
            seen[key] = seen.get(key, 0) + 1
        for key in [(many, kept) for many in (1, 2, 3, 4) for kept in (True, False)]:
            self.assertGreater(seen[key], 2, seen)

    def test_one_part_may_share_all(self):
        hold = cooling_hold(1, most=0, wood=3)
        self.assertEqual(rank_apart(hold, start_state(hold, (0,))), 1)
        hold = cooling_hold(2, most=1, wood=3)
        hold.put_flow(0, 1, (1, 10))
        state = start_state(hold, (1, 1))
        self.assertEqual(rank_apart(hold, state), self.rank(hold, state))

    def test_shared_wood(self):
        hold = cooling_hold(2)
        hold.put_stove(1, (12, 1), wood=1)
        refused(self, Shared, lambda: rank_apart(hold, start_state(hold, (0, 0))))
        hold.put_stove(1, (12, 1), wood=0)
        self.assertIsNone(rank_apart(hold, start_state(hold, (0, 0))))

    def test_as_many_stoves_as_most_and_one_more(self):
        for rooms in (2, 3, 4):
            hold = cooling_hold(rooms, most=rooms)
            state = start_state(hold, (0,) * rooms)
            self.assertIsNone(rank_apart(hold, state))
            refused(self, Shared, lambda: rank_apart(hold_like(hold, most=rooms - 1), state))
        # It is stoves that count, not rooms.
        hold = hold_of(4, most=0)
        self.assertIsNone(rank_apart(hold, start_state(hold, (0, 0, 0, 0))))
        hold.put_stove(2, (0, 1))
        refused(self, Shared, lambda: rank_apart(hold, start_state(hold, (0, 0, 0, 0))))

    def test_no_state_ahead_of_shared(self):
        hold = cooling_hold(2, wood=1)
        refused(self, Shared, lambda: rank_apart(hold, start_state(hold, (0, 0))))
        for wrong in (((2, 0), 0, (0, 0), (0, 0), 0), ((0, 0), 0, (0, 0), (0, 0), 1), ((0,), 0, (0,), (0,), 0)):
            refused(self, NoState, lambda: rank_apart(hold, wrong))

    def test_too_many_behind_shared(self):
        hold = wide_rooms((4, 4, 5, 5), cap=5, load=1)
        state = start_state(hold, (0, 0, 0, 0))
        refused(self, TooMany, lambda: ranks_of(hold, [state]))
        # By parts there are few states, of each room alone.
        self.assertIsNone(rank_apart(hold, state))
        hold.put_stove(0, (0, 1), wood=1)
        refused(self, Shared, lambda: rank_apart(hold, state))

    def test_too_many_in_a_part(self):
        hold = wide_rooms((5, 5, 4), cap=30, load=1)
        for room in (1, 2):
            marks = len(hold.marks(room)) - 1
            hold.put_sky(room, (3, 4), (0, 1), (marks, 1))
            hold.put_flow(0, room, (0, 1))
            hold.put_flow(room, 0, (1, 10 ** 9))
        self.assertEqual(parts_of(hold), [[0, 1, 2]])
        state = start_state(hold, (0, 0, 0))
        refused(self, TooMany, lambda: ranks_of(hold, [state]))
        refused(self, TooMany, lambda: rank_apart(hold, state))
        hold.put_room(whole_marks(0, 1))
        state = start_state(hold, (0, 0, 0, 0))
        refused(self, TooMany, lambda: rank_apart(hold, state))
        hold.put_stove(3, (0, 1), wood=1)
        refused(self, Shared, lambda: rank_apart(hold, state))

    def test_holds_are_not_changed(self):
        hold = cooling_hold(3)
        ahead = told(hold)
        rank_apart(hold, start_state(hold, (0, 0, 0)))
        parts_of(hold)
        only_rooms(hold, [0, 2])
        self.assertEqual(told(hold), ahead)

    def test_hold_as_it_is_then(self):
        hold = cooling_hold(2)
        state = start_state(hold, (0, 0))
        self.assertIsNone(rank_apart(hold, state))
        hold.put_sky(1, (1, 6), (-99, 1), (-60, 1))
        self.assertEqual(rank_apart(hold, state), 1)


class OwnTest(unittest.TestCase):
    def test_told_lists_are_the_askers_own(self):
        hold = hold_of(3)
        hold.put_flow(0, 2, (1, 4))
        found = parts_of(hold)
        found[0].clear()
        found.clear()
        self.assertEqual(parts_of(hold), [[0, 2], [1]])


class InterfaceTest(unittest.TestCase):
    def test_names_and_arguments(self):
        rows = {"parts_of": "hold", "only_rooms": "hold rooms", "portion": "state rooms", "rank_apart": "hold state"}
        for name, wanted in rows.items():
            self.assertEqual(list(inspect.signature(getattr(parts, name)).parameters), wanted.split())


if __name__ == "__main__":
    unittest.main()
