import inspect
import random
import unittest

from stoke import games
from stoke.errors import NoState, TooMany
from stoke.games import ranks_of, states_met
from stoke.holds import Hold, hold_like
from stoke.stoves import orders_of, start_state
from stoke.turns import outcomes
from tests.telling import (
    fading_hold, plain_game, plain_ranks, refused, small_hold, some_state, told, whole_marks, wide_rooms,
)

GREAT = 10 ** 59


# A room that may come from each of its bands to each, with a stove that does nothing but burn.
def wide_hold(bands=6, **bounds):
    hold = wide_rooms((bands,), **bounds)
    hold.put_stove(0, (0, 1), wood=1)
    return hold


def rank_of(hold, state):
    return ranks_of(hold, [state])[state]


class MetTest(unittest.TestCase):
    def test_of_any_order(self):
        hold = wide_hold(2, cap=1)
        found = states_met(hold, [start_state(hold, (0,), 1)])
        self.assertEqual(found[0], start_state(hold, (0,), 1))
        wanted = [((band,), burning, (0,), (0,), heap) for band in (0, 1) for burning, heap in ((0, 1), (1, 0), (0, 0))]
        self.assertEqual(sorted(found), sorted(wanted))

    def test_unsafe_orders_bring_none(self):
        hold = wide_hold(2, cap=1)
        hold.put_stove(0, (1, 1), wood=1)
        found = states_met(hold, [start_state(hold, (0,), 1)])
        self.assertEqual(sorted(found), [start_state(hold, (0,), 1), start_state(hold, (1,), 1)])
        hold.put_sky(0, (1, 1), (0, 1), (3, 1))
        self.assertEqual(states_met(hold, [start_state(hold, (1,), 1)]), [start_state(hold, (1,), 1)])

    def test_no_order_brings_none(self):
        hold = wide_hold(2, cap=1)
        hold.put_stove(0, (0, 1), wood=1, stay=1)
        state = ((0,), 1, (1,), (0,), 0)
        self.assertEqual(states_met(hold, [state]), [state])

    def test_no_states(self):
        self.assertEqual(states_met(fading_hold(), []), [])
        self.assertEqual(states_met(fading_hold(), [], 1), [])
        self.assertEqual(ranks_of(fading_hold(), []), {})

    def test_a_state_told_twice(self):
        hold = Hold()
        hold.put_room(whole_marks(0, 1))
        state = start_state(hold, (0,))
        self.assertEqual(states_met(hold, [state, state, state], 1), [state])
        self.assertEqual(ranks_of(hold, [state, state], 1), {state: None})

    def test_told_ones_come_as_they_are(self):
        hold = wide_hold(3, cap=2)
        states = [start_state(hold, (0,), 2), ((2,), 1, (0,), (0,), 0), start_state(hold, (1,), 1)]
        found = states_met(hold, states)
        self.assertEqual(len(found), len(set(found)))
        self.assertLessEqual(set(states), set(found))

    def test_limit(self):
        hold = wide_hold(6, cap=3, load=1)
        states = [start_state(hold, (0,), 1), start_state(hold, (4,), 0)]
        many = len(states_met(hold, states))
        self.assertGreater(many, 12)
        for asked in (states_met, ranks_of):
            self.assertEqual(len(asked(hold, states, many)), many)
            self.assertEqual(len(asked(hold, states, limit=GREAT)), many)
            for limit in (many - 1, many // 2, 2, 1):
                refused(self, TooMany, lambda: asked(hold, states, limit))
            # What was refused may be asked again.
            self.assertEqual(len(asked(hold, states, many)), many)

    def test_told_states_count(self):
        hold = Hold()
        hold.put_room(whole_marks(0, 1, 2, 3))
        states = [start_state(hold, (band,)) for band in (0, 2)]
        with self.assertRaises(TooMany):
            states_met(hold, states, 1)

    def test_limit_that_is_left_out(self):
        # One start with a heap of 0, and 400 states for each heap of 1 to 5: 2001 in all.
        hold = wide_rooms((4, 4, 5, 5), cap=5, load=1)
        empty = [start_state(hold, (0, 0, 0, 0), 0)]
        for asked in (states_met, ranks_of):
            with self.assertRaises(TooMany):
                asked(hold, empty)
        self.assertEqual(len(states_met(hold, empty, 2001)), 2001)

    def test_just_two_thousand(self):
        # 400 choices of bands for each of five heaps, of which nothing is taken.
        hold = wide_rooms((4, 4, 5, 5), cap=4)
        states = [start_state(hold, (0, 0, 0, 0), heap) for heap in range(5)]
        self.assertEqual(len(states_met(hold, states)), 2000)
        self.assertEqual(set(ranks_of(hold, states).values()), {None})
        hold = wide_rooms((4, 4, 5, 5), cap=5)
        states.append(start_state(hold, (0, 0, 0, 0), 5))
        for asked in (states_met, ranks_of):
            with self.assertRaises(TooMany):
                asked(hold, states)


class RankTest(unittest.TestCase):
    def test_no_order(self):
        hold = fading_hold(cap=3, wood=2, stay=1)
        state = ((3,), 1, (1,), (0,), 1)
        self.assertEqual(ranks_of(hold, [state]), {state: 0})
        self.assertIsNotNone(rank_of(hold, ((3,), 1, (1,), (0,), 2)))

    def test_each_order_unsafe(self):
        hold = fading_hold()
        hold.put_stove(0, (9, 1))
        state = start_state(hold, (0,))
        self.assertEqual(orders_of(hold, state), [0, 1])
        self.assertEqual(ranks_of(hold, [state]), {state: 1})

    def test_orders_that_leave_no_order(self):
        # A stove that must stay for a turn, and wood for one turn alone: it lasts no turn to light it.
        hold = Hold(cap=1)
        hold.put_room(whole_marks(0, 10))
        hold.put_sky(0, (1, 1), (-1, 1), (-1, 1))
        hold.put_stove(0, (1, 1), wood=1, stay=1)
        self.assertEqual(rank_of(hold, start_state(hold, (0,), 1)), 1)
        self.assertEqual(rank_of(hold, start_state(hold, (0,), 0)), 1)
        more = hold_like(hold, cap=2)
        self.assertEqual(rank_of(more, start_state(more, (0,), 2)), 3)

    def test_turn_by_turn(self):
        # With no wood it falls, band by band; from the lowest it leaves its bounds.
        hold = fading_hold(cap=30, wood=1)
        found = ranks_of(hold, [start_state(hold, (5,), 0)])
        # Five sixths, less ten: from 50 to 31 2/3, so band 3, from 30 to 15, so band 1, from 10 to less than nought.
        self.assertEqual([found[start_state(hold, (band,), 0)] for band in (5, 4, 3, 2, 1, 0)], [3, 3, 2, 2, 1, 1])

    def test_wood_for_so_many_turns(self):
        hold = fading_hold(cap=30, wood=1)
        for heap in (0, 1, 2, 9, 30):
            # Each wood lasts for a turn from the lowest band, and none more.
            self.assertEqual(rank_of(hold, start_state(hold, (0,), heap)), heap + 1)

    def test_for_ever(self):
        hold = fading_hold(cap=30, load=1, wood=1)
        self.assertEqual(rank_of(hold, start_state(hold, (0,), 0)), 1)
        self.assertIsNone(rank_of(hold, start_state(hold, (0,), 1)))

    def test_one_order_for_ever_and_another_not(self):
        hold = fading_hold()
        state = start_state(hold, (0,))
        self.assertIsNone(outcomes(hold, state, 0))
        self.assertIsNone(rank_of(hold, state))
        # And the other way round: the stove makes it too warm.
        hold.put_sky(0, (1, 6), (60, 1), (60, 1))
        state = start_state(hold, (5,))
        self.assertIsNone(outcomes(hold, state, 1))
        self.assertIsNone(rank_of(hold, state))

    def test_the_longest_of_several_orders(self):
        hold = fading_hold(cap=4, load=1, wood=2, stay=1)
        # What the orders last, first that of no stove: it may be better to burn the wood, and to spare it.
        for band, heap, wanted in ((5, 4, [5, 7]), (4, 3, [5, 6]), (2, 3, [4, 3])):
            state = start_state(hold, (band,), heap)
            ranks = ranks_of(hold, [state])
            lasting = [min(ranks[each] for each in outcomes(hold, state, order)) for order in (0, 1)]
            self.assertEqual(lasting, wanted)
            self.assertEqual(ranks[state], max(wanted) + 1)

    def test_failing_stoves(self):
        # A stove that may fail to light once is lit in time, or not at all.
        hold = fading_hold(fails=1)
        self.assertIsNone(rank_of(hold, start_state(hold, (5,))))
        self.assertEqual(rank_of(hold, start_state(hold, (0,))), 1)
        self.assertIsNone(rank_of(hold, ((0,), 0, (0,), (1,), 0)))
        self.assertIsNone(rank_of(hold, ((0,), 1, (0,), (0,), 0)))

    def test_waiting_stoves(self):
        hold = fading_hold(stay=3)
        for wait, wanted in ((0, None), (1, 1), (2, 1), (3, 1)):
            self.assertEqual(rank_of(hold, ((0,), 0, (wait,), (0,), 0)), wanted)
        self.assertIsNone(rank_of(hold, ((2,), 0, (1,), (0,), 0)))
        self.assertEqual(rank_of(hold, ((2,), 0, (3,), (0,), 0)), 2)

    def test_most(self):
        hold = hold_like(fading_hold(), most=0)
        self.assertEqual(rank_of(hold, start_state(hold, (0,))), 1)
        self.assertEqual(rank_of(hold, start_state(hold, (5,))), 3)
        self.assertIsNone(rank_of(hold_like(hold, most=1), start_state(hold, (5,))))

    def test_some_hundreds_of_states(self):
        hold = wide_rooms((4, 3, 2), cap=2, load=1)
        hold.put_stove(0, (0, 1), wood=1, fails=1)
        hold.put_stove(1, (0, 1), wood=1, stay=1)
        found = ranks_of(hold, [start_state(hold, (0, 0, 0))])
        self.assertGreater(len(found), 300)
        self.assertEqual(found, plain_ranks(plain_game(hold, [start_state(hold, (0, 0, 0))], 2000)))


class SomeTest(unittest.TestCase):
    def check(self, hold, states):
        game = plain_game(hold, states, 200)
        if game is None:
            for asked in (states_met, ranks_of):
                with self.assertRaises(TooMany):
                    asked(hold, states, 200)
            return {}
        found = states_met(hold, states, len(game))
        self.assertIs(type(found), list)
        self.assertEqual(len(found), len(game), told(hold))
        self.assertEqual(set(found), set(game))
        met = set(states)
        for state in found:
            # Each is a told one, or may come of one that is nearer in the list.
            self.assertIn(state, met)
            for behind in game[state].values():
                met.update(behind or ())
        ranks = ranks_of(hold, states, len(game))
        self.assertIs(type(ranks), dict)
        self.assertEqual(ranks, plain_ranks(game), told(hold))
        return ranks

    def test_some_holds(self):
        source = random.Random(1)
        seen = {}
        for _ in range(120):
            hold = small_hold(source, most_bands=4)
            states = [some_state(source, hold) for _ in range(source.randint(1, 4))]
            for rank in self.check(hold, states).values():
                seen[rank] = seen.get(rank, 0) + 1
        for rank in (None, 0, 1, 2, 3):
            self.assertGreater(seen[rank], 5, seen)

    # Rooms that fade, with stoves that take wood and little of it: ill in many turns.
    def test_fading_rooms(self):
        source = random.Random(2)
        longest = 0
        for _ in range(40):
            hold = Hold(most=source.randint(1, 2), cap=source.randint(2, 6), load=source.randint(0, 1))
            for _ in range(source.randint(1, 2)):
                room = hold.put_room(whole_marks(0, 10, 20, 30))
                low = source.randint(-60, -20)
                hold.put_sky(room, (1, source.randint(3, 8)), (low, 1), (low + source.randint(0, 9), 1))
                hold.put_stove(room, (source.randint(6, 20), 1), source.randint(1, 2), 0, source.randint(0, 1))
            states = [start_state(hold, (2,) * hold.many(), hold.cap)]
            ranks = self.check(hold, states)
            longest = max([longest] + [rank for rank in ranks.values() if rank is not None])
        self.assertGreater(longest, 6)

    def test_ranks_by_their_own_words(self):
        source = random.Random(3)
        for _ in range(60):
            hold = small_hold(source, most_rooms=3, most_bands=5)
            try:
                ranks = ranks_of(hold, [some_state(source, hold)], 300)
            except TooMany:
                continue
            for state, rank in ranks.items():
                lasting = []
                for order in orders_of(hold, state):
                    behind = outcomes(hold, state, order)
                    known = [0] if behind is None else [ranks[each] for each in behind if ranks[each] is not None]
                    lasting.append(min(known, default=None))
                if None in lasting:
                    self.assertIsNone(rank)
                else:
                    self.assertEqual(rank, max(lasting) + 1 if lasting else 0)


class RefusalTest(unittest.TestCase):
    def test_no_state_ahead_of_all_else(self):
        hold = fading_hold(cap=2, wood=1, stay=1, fails=1)
        good = start_state(hold, (5,), 2)
        for wrong in (
            ((6,), 0, (0,), (0,), 0), ((-1,), 0, (0,), (0,), 0), ((0,), 2, (0,), (0,), 0), ((0,), 0, (2,), (0,), 0),
            ((0,), 0, (0,), (2,), 0), ((0,), 1, (0,), (1,), 0), ((0,), 0, (0,), (0,), 3), ((0,), 0, (0,), (0,), -1),
            ((), 0, (0,), (0,), 0), ((0,), 0, (0, 0), (0,), 0), ((GREAT,), 0, (0,), (0,), 0),
            ((0,), 2 ** 60, (0,), (0,), 0), ((0,), 0, (0,), (0,), GREAT),
        ):
            for asked in (states_met, ranks_of):
                for states in ([wrong], [good, wrong], [wrong, good], [good, good, wrong]):
                    for limit in (2000, 1):
                        refused(self, NoState, lambda: asked(hold, states, limit))
                self.assertGreater(len(asked(hold, [good])), 5)


class OwnTest(unittest.TestCase):
    def test_told_things_are_the_askers_own(self):
        hold = fading_hold(cap=2, wood=1)
        states = [start_state(hold, (5,), 2)]
        for asked in (states_met, ranks_of):
            ahead = asked(hold, states)
            wanted = ahead.copy()
            asked(hold, states).clear()
            self.assertEqual(ahead, wanted)
            ahead.clear()
            self.assertEqual(asked(hold, states), wanted)
        self.assertEqual(states, [start_state(hold, (5,), 2)])
        found = states_met(hold, states)
        states.clear()
        self.assertGreater(len(found), 1)

    def test_hold_as_it_is_then(self):
        hold = fading_hold(cap=2, wood=1)
        state = start_state(hold, (0,), 2)
        ahead = told(hold)
        self.assertEqual(rank_of(hold, state), 3)
        self.assertEqual(told(hold), ahead)
        hold.put_stove(0, (20, 1), wood=2)
        self.assertEqual(rank_of(hold, state), 2)
        hold.put_stove(0, (20, 1))
        self.assertIsNone(rank_of(hold, state))
        hold.put_sky(0, (1, 6), (-121, 1), (-60, 1))
        self.assertEqual(rank_of(hold, state), 1)


class InterfaceTest(unittest.TestCase):
    def test_names_and_arguments(self):
        for name in ("states_met", "ranks_of"):
            parameters = inspect.signature(getattr(games, name)).parameters
            self.assertEqual(list(parameters), ["hold", "states", "limit"])
            self.assertEqual(parameters["limit"].default, 2000)


if __name__ == "__main__":
    unittest.main()
