import inspect
import random
import unittest

from stoke import woods
from stoke.bits import how_many
from stoke.errors import NoState, TooMany
from stoke.games import ranks_of
from stoke.holds import Hold, hold_like
from stoke.stoves import start_state
from stoke.woods import lasts_by_heap, least_load, least_most, need_of
from tests.telling import plain_game, plain_ranks, refused, small_hold, some_state, told, whole_marks, wide_rooms

GREAT = 10 ** 59
ALL = (lasts_by_heap, need_of, least_load, least_most)


# Rooms that lose, in a turn without their stoves, up to ten and more.
def fading_rooms(rooms=1, most=4, cap=0, load=0, wood=1, **stove):
    hold = Hold(most, cap, load)
    for room in range(rooms):
        hold.put_room(whole_marks(0, 10, 20))
        hold.put_sky(room, (1, 6), (-60, 1), (-60, 1))
        hold.put_stove(room, (12, 1), wood, **stove)
    return hold


def cold(hold, heap=0):
    return start_state(hold, (0,) * hold.many(), heap)


class HeapTest(unittest.TestCase):
    def test_a_turn_for_each_wood(self):
        hold = fading_rooms(cap=5)
        self.assertEqual(lasts_by_heap(hold, cold(hold, 3)), [1, 2, 3, 4, 5, 6])
        self.assertIsNone(need_of(hold, cold(hold, 3)))

    def test_own_heap_tells_nothing(self):
        hold = fading_rooms(cap=5)
        for heap in range(6):
            self.assertEqual(lasts_by_heap(hold, cold(hold, heap)), [1, 2, 3, 4, 5, 6])

    def test_need(self):
        # With so much load as a turn takes, the need is what the first turn takes.
        for wood in (1, 3, 5):
            hold = fading_rooms(cap=5, load=wood, wood=wood)
            self.assertEqual(lasts_by_heap(hold, cold(hold)), [1] * wood + [None] * (6 - wood))
            self.assertEqual(need_of(hold, cold(hold, 2)), wood)

    def test_need_of_nought_of_cap_and_none(self):
        self.assertEqual(need_of(fading_rooms(cap=3, wood=0), cold(fading_rooms())), 0)
        self.assertEqual(need_of(fading_rooms(cap=3, wood=3, load=3), cold(fading_rooms())), 3)
        self.assertIsNone(need_of(fading_rooms(cap=3, wood=4, load=3), cold(fading_rooms())))

    def test_cap_of_nought(self):
        hold = fading_rooms(cap=0, load=9, wood=1)
        self.assertEqual(lasts_by_heap(hold, cold(hold)), [1])
        self.assertIsNone(need_of(hold, cold(hold)))
        hold.put_stove(0, (12, 1))
        self.assertEqual(lasts_by_heap(hold, cold(hold)), [None])
        self.assertEqual(need_of(hold, cold(hold)), 0)

    def test_ranks_of_nought(self):
        hold = fading_rooms(cap=3, wood=2, stay=1)
        self.assertEqual(lasts_by_heap(hold, ((0,), 1, (1,), (0,), 3)), [0, 0, 2, 2])

    def test_great_cap(self):
        hold = fading_rooms(cap=30)
        self.assertEqual(lasts_by_heap(hold, cold(hold)), list(range(1, 32)))


class LoadTest(unittest.TestCase):
    def test_what_a_turn_takes(self):
        for wood in (0, 1, 2, 4):
            hold = fading_rooms(cap=4, wood=wood)
            self.assertEqual(least_load(hold, cold(hold, 4)), wood)
            self.assertIsNone(ranks_of(hold_like(hold, load=wood), [cold(hold, 4)])[cold(hold, 4)])

    def test_own_load_tells_nothing(self):
        for load in (0, 1, 30):
            hold = fading_rooms(cap=4, load=load, wood=2)
            self.assertEqual(least_load(hold, cold(hold, 4)), 2)

    def test_own_heap_counts(self):
        hold = fading_rooms(cap=4, wood=2)
        self.assertEqual([least_load(hold, cold(hold, heap)) for heap in range(5)], [None, None, 2, 2, 2])

    def test_none(self):
        hold = fading_rooms(cap=3, wood=4, load=30)
        self.assertIsNone(least_load(hold, cold(hold, 3)))

    def test_cap_of_nought(self):
        self.assertEqual(least_load(fading_rooms(wood=0), cold(fading_rooms())), 0)
        self.assertIsNone(least_load(fading_rooms(wood=1, load=5), cold(fading_rooms())))

    def test_up_to_cap(self):
        # Four stoves that take nine each would need 36, four that take seven 28.
        hold = fading_rooms(rooms=4, cap=30, wood=7)
        self.assertEqual(least_load(hold, cold(hold, 28)), 28)
        self.assertIsNone(least_load(hold, cold(hold, 27)))
        hold = fading_rooms(rooms=3, cap=27, wood=9)
        self.assertEqual(least_load(hold, cold(hold, 27)), 27)

    def test_every_other_turn(self):
        # From the upper band the room can do without the stove for a turn, so half of what a turn takes will do.
        hold = fading_rooms(cap=8, wood=4)
        hold.put_sky(0, (1, 4), (-10, 1), (-10, 1))
        hold.put_stove(0, (14, 1), wood=4)
        self.assertEqual(least_load(hold, start_state(hold, (1,), 8)), 2)


class MostTest(unittest.TestCase):
    def test_how_many_stoves_must_burn(self):
        for rooms in (1, 2, 3, 4):
            hold = fading_rooms(rooms, wood=0)
            self.assertEqual(least_most(hold, cold(hold)), rooms)
            # What most the hold itself has tells nothing.
            self.assertEqual(least_most(hold_like(hold, most=0), cold(hold)), rooms)

    def test_nought(self):
        hold = Hold()
        hold.put_room(whole_marks(0, 1))
        self.assertEqual(least_most(hold, cold(hold)), 0)
        self.assertEqual(least_most(hold_like(hold, most=0), cold(hold)), 0)

    def test_none(self):
        hold = fading_rooms(wood=1)
        self.assertIsNone(least_most(hold, cold(hold)))

    def test_of_burning_stoves(self):
        # Nothing need burn here, but two do, so two at least may.
        hold = Hold(most=3)
        for room in range(3):
            hold.put_room(whole_marks(0, 1))
            hold.put_stove(room, (0, 1))
        for burning, wanted in ((0, 0), (1, 1), (4, 1), (3, 2), (5, 2), (7, 3)):
            self.assertEqual(least_most(hold, ((0, 0, 0), burning, (0, 0, 0), (0, 0, 0), 0)), wanted)

    def test_four_that_burn(self):
        hold = fading_rooms(rooms=4, wood=0)
        state = ((0, 0, 0, 0), 15, (0, 0, 0, 0), (0, 0, 0, 0), 0)
        self.assertEqual(least_most(hold, state), 4)
        hold.put_sky(0, (1, 6), (-75, 1), (-60, 1))
        self.assertIsNone(least_most(hold, state))


class SomeTest(unittest.TestCase):
    def rank(self, hold, state):
        game = plain_game(hold, [state], 300)
        return "many" if game is None else plain_ranks(game)[state]

    def first(self, bounds, holds, state):
        for bound, hold in zip(bounds, holds):
            if self.rank(hold, state) is None:
                return bound
        return None

    def test_some_holds(self):
        source = random.Random(1)
        seen = {"need": set(), "load": set(), "most": set()}
        for _ in range(60):
            hold = small_hold(source, most_rooms=3, most_bands=2)
            if source.random() < 0.5:
                hold = fading_rooms(
                    source.randint(1, 2), source.randint(0, 4), source.randint(2, 4), source.randint(0, 4),
                    source.randint(0, 3), stay=source.randint(0, 1), fails=source.randint(0, 1),
                )
            state = some_state(source, hold)
            states = [state[:4] + (heap,) for heap in range(hold.cap + 1)]
            if plain_game(hold, states, 300) is None:
                continue
            lasts = lasts_by_heap(hold, state)
            self.assertIs(type(lasts), list)
            self.assertEqual(lasts, [self.rank(hold, each) for each in states], told(hold))
            seen["need"].add(self.check_need(hold, state, lasts))
            loads = range(hold.cap + 1)
            wanted = self.first(loads, [hold_like(hold, load=load) for load in loads], state)
            self.assertEqual(least_load(hold, state), wanted, told(hold))
            seen["load"].add(wanted)
            mosts = range(how_many(state[1]), 5)
            wanted = self.first(mosts, [hold_like(hold, most=most) for most in mosts], state)
            self.assertEqual(least_most(hold, state), wanted, told(hold))
            seen["most"].add(wanted)
        for found in seen.values():
            self.assertLessEqual({None, 0, 1}, found, seen)

    def check_need(self, hold, state, lasts):
        need = need_of(hold, state)
        if need is None:
            self.assertNotIn(None, lasts)
        else:
            self.assertIsNone(lasts[need])
            self.assertNotIn(None, lasts[:need])
        return need


class RefusalTest(unittest.TestCase):
    def test_no_state(self):
        hold = fading_rooms(most=0, cap=2, stay=1)
        for wrong in (
            ((2,), 0, (0,), (0,), 0), ((0,), 0, (0,), (0,), 3), ((0,), 0, (0,), (0,), -1), ((0,), 0, (0,), (0,), GREAT),
            ((0,), 1, (0,), (0,), 0), ((0,), 0, (2,), (0,), 0), ((0, 0), 0, (0,), (0,), 0), ((), 0, (), (), 0),
            ((0,), 2 ** 60, (0,), (0,), 0), ((0,), 0, (0,), (1,), 0),
        ):
            for asked in ALL:
                with self.subTest(wrong=wrong, asked=asked.__name__):
                    refused(self, NoState, lambda: asked(hold, wrong))
        for asked in ALL:
            asked(hold, cold(hold))

    def test_too_many(self):
        hold = wide_rooms((4, 4, 5, 5), cap=5)
        state = cold(hold)
        # With all six heaps 2400 states are met together, with five of them 2000.
        refused(self, TooMany, lambda: lasts_by_heap(hold, state))
        self.assertEqual(lasts_by_heap(hold_like(hold, cap=4), state), [None] * 5)
        refused(self, NoState, lambda: lasts_by_heap(hold, state[:4] + (6,)))


class OwnTest(unittest.TestCase):
    def test_told_list_is_the_askers_own(self):
        hold = fading_rooms(cap=2)
        lasts_by_heap(hold, cold(hold)).clear()
        self.assertEqual(lasts_by_heap(hold, cold(hold)), [1, 2, 3])

    def test_holds_are_not_changed(self):
        hold = fading_rooms(rooms=2, most=2, cap=3, load=1, wood=1)
        ahead = told(hold)
        for asked in ALL:
            asked(hold, cold(hold, 2))
            self.assertEqual(told(hold), ahead)

    def test_hold_as_it_is_then(self):
        hold = fading_rooms(cap=4, load=1, wood=1)
        self.assertEqual((need_of(hold, cold(hold)), least_load(hold, cold(hold, 4))), (1, 1))
        hold.put_stove(0, (12, 1), wood=3)
        self.assertEqual((need_of(hold, cold(hold)), least_load(hold, cold(hold, 4))), (None, 3))
        hold.put_stove(0, (12, 1))
        self.assertEqual((need_of(hold, cold(hold)), least_load(hold, cold(hold, 4))), (0, 0))
        self.assertEqual(least_most(hold, cold(hold)), 1)
        hold.put_sky(0, (0, 1), (0, 1), (0, 1))
        self.assertEqual(least_most(hold, cold(hold)), 0)


class InterfaceTest(unittest.TestCase):
    def test_names_and_arguments(self):
        for asked in ALL:
            self.assertEqual(list(inspect.signature(getattr(woods, asked.__name__)).parameters), ["hold", "state"])


if __name__ == "__main__":
    unittest.main()
