import inspect
import random
import unittest

from stoke import makers
from stoke.errors import NoState, TooMany
from stoke.fates import fates_of
from stoke.games import ranks_of, states_met
from stoke.holds import Hold
from stoke.keepers import Clock, Keeper, Table
from stoke.makers import foil_of, made_keeper
from stoke.stoves import heeded, orders_of, start_state
from stoke.turns import outcomes
from stoke.walks import Walk
from tests.telling import (
    exact, fading_hold, plain_is_within, refused, small_hold, some_keeper, some_state, some_turn, told, whole_marks,
    wide_rooms,
)

GREAT = 10 ** 59


# Two rooms that take of one another, with stoves that take wood, may fail to light and must stay.
def shared_hold(most=1, cap=3, load=1):
    hold = Hold(most, cap, load)
    for low in (-20, -26):
        room = hold.put_room(whole_marks(0, 8, 16, 24))
        hold.put_sky(room, (1, 4), (low, 1), (low + 8, 1))
    hold.put_flow(0, 1, (1, 4))
    hold.put_stove(0, (9, 1), wood=1, fails=1)
    hold.put_stove(1, (10, 1), wood=2, stay=1)
    return hold


def lasting(hold, ranks, state, order):
    behind = outcomes(hold, state, order)
    known = [0] if behind is None else [ranks[each] for each in behind if ranks[each] is not None]
    return min(known, default=None)


# Holds, lists of states and their ranks, drawn by a seed, of at most some hundreds of states.
def some_games(seed, many, most_rooms=3):
    source = random.Random(seed)
    while many > 0:
        hold = small_hold(source, most_rooms, most_bands=4)
        states = [some_state(source, hold) for _ in range(source.randint(1, 3))]
        try:
            ranks = ranks_of(hold, states, 300)
        except TooMany:
            continue
        many -= 1
        yield source, hold, states, ranks


class MadeTest(unittest.TestCase):
    def check(self, hold, states, ranks):
        keeper = made_keeper(hold, states)
        self.assertIs(type(keeper), Table)
        self.assertEqual((keeper.minds(), keeper.size()), (1, 1))
        self.assertEqual(set(keeper.rows), {state for state in ranks if orders_of(hold, state)})
        for state, order in keeper.rows.items():
            self.assertEqual(keeper.wish(0, state), order)
            self.assertEqual(heeded(hold, state, order), order)
            rank = ranks[state]
            self.assertEqual(lasting(hold, ranks, state, order), None if rank is None else rank - 1)

    def test_some_holds(self):
        for _, hold, states, ranks in some_games(1, 80):
            self.check(hold, states, ranks)

    def test_rows(self):
        hold = fading_hold(cap=4, load=1, wood=2, stay=1)
        for band, heap, wanted in ((5, 4, 1), (4, 3, 1), (2, 3, 0), (0, 3, 1)):
            state = start_state(hold, (band,), heap)
            self.assertEqual(made_keeper(hold, [state]).wish(0, state), wanted)

    def test_no_row_without_an_order(self):
        hold = fading_hold(cap=1, wood=1, stay=1)
        state = ((0,), 1, (1,), (0,), 0)
        self.assertEqual(made_keeper(hold, [state]).rows, {})
        self.assertEqual(made_keeper(hold, [state]).wish(0, state), 0)

    def test_rows_of_unsafe_orders(self):
        # Each order lasts no turn, and still there is a row, of one that is allowed.
        hold = fading_hold()
        hold.put_stove(0, (5, 1), stay=1)
        burning = ((0,), 1, (1,), (0,), 0)
        rows = made_keeper(hold, [burning, start_state(hold, (0,))]).rows
        self.assertEqual(set(rows), {burning, start_state(hold, (0,))})
        self.assertEqual(rows[burning], 1)

    def test_no_states(self):
        self.assertEqual(made_keeper(fading_hold(), []).rows, {})
        self.assertEqual(made_keeper(fading_hold(), []).wish(0, start_state(fading_hold(), (0,))), 0)
        self.assertEqual(foil_of(fading_hold(), []), {})

    def test_a_state_told_twice(self):
        hold = shared_hold()
        state = start_state(hold, (1, 1), 2)
        self.assertEqual(made_keeper(hold, [state, state]).rows, made_keeper(hold, [state]).rows)
        self.assertEqual(foil_of(hold, [state, state]), foil_of(hold, [state]))

    def test_the_same_one_each_time(self):
        for source, hold, states, ranks in some_games(2, 40):
            like = Hold(hold.most, hold.cap, hold.load)
            rooms = range(hold.many())
            for room in rooms:
                like.put_room(hold.marks(room))
            for room in reversed(rooms):
                like.put_stove(room, (99, 1), 9, 3, 3)
                if hold.stove(room) is None:
                    # A stove that was told is not taken back: this hold is of another kind.
                    break
                like.put_stove(room, *hold.stove(room))
                for of in rooms:
                    if of != room:
                        like.put_flow(room, of, hold.share(room, of))
                like.put_sky(room, *hold.sky(room))
            else:
                self.assertEqual(told(like), told(hold))
                self.assertEqual(made_keeper(like, states[::-1]).rows, made_keeper(hold, states).rows)
            some = source.choice(list(ranks))
            rows = made_keeper(hold, states).rows
            for state, order in made_keeper(hold, [some]).rows.items():
                self.assertEqual(rows[state], order)


class KeptTest(unittest.TestCase):
    # Point 4: from a kept state the made keeper keeps every room, whatever is drawn.
    def go_along(self, source, hold, keeper, state, turns):
        walk = Walk(hold, state)
        for _ in range(turns):
            order = heeded(hold, walk.state(), keeper.wish(0, walk.state()))
            self.assertIsNotNone(order)
            out, warmths, bands = some_turn(source, hold, walk.state(), order)
            for room, warmth in enumerate(warmths):
                self.assertTrue(plain_is_within(hold, room, exact(warmth), exact(warmth)))
            walk.go(order, out, bands, warmths)
        self.assertEqual(walk.turns(), turns)

    def test_some_holds(self):
        kept = 0
        for source, hold, states, ranks in some_games(3, 60):
            keeper = made_keeper(hold, states)
            for state in [each for each in states if ranks[each] is None]:
                kept += 1
                self.go_along(source, hold, keeper, state, 25)
        self.assertGreater(kept, 20)

    def test_a_hold_that_is_kept_by_its_stoves(self):
        source = random.Random(4)
        hold = shared_hold(most=2, cap=6, load=3)
        state = start_state(hold, (2, 2), 6)
        keeper = made_keeper(hold, [state])
        self.assertIsNone(ranks_of(hold, [state])[state])
        self.assertIsNotNone(fates_of(hold, Keeper(), [(state, 0)])[(state, 0)])
        for _ in range(10):
            self.go_along(source, hold, keeper, state, 60)

    def test_made_keepers_fate_is_the_rank(self):
        for _, hold, states, ranks in some_games(5, 60):
            keeper = made_keeper(hold, states)
            fates = fates_of(hold, keeper, [(state, 0) for state in ranks])
            self.assertEqual({state: fate for (state, _), fate in fates.items()}, ranks)

    def test_no_keepers_fate_is_above_the_rank(self):
        less = 0
        for source, hold, states, ranks in some_games(6, 60):
            keeper = some_keeper(source, hold, 1)
            try:
                fates = fates_of(hold, keeper, [(state, 0) for state in states])
            except TooMany:
                continue
            for (state, _), fate in fates.items():
                if ranks[state] is not None:
                    self.assertIsNotNone(fate)
                    self.assertLessEqual(fate, ranks[state])
                less += fate is not None and fate != ranks[state]
        self.assertGreater(less, 20)


class FoilTest(unittest.TestCase):
    def check(self, hold, states, ranks):
        foil = foil_of(hold, states)
        self.assertIs(type(foil), dict)
        ill = [state for state in ranks if ranks[state] is not None]
        self.assertEqual(set(foil), {(state, order) for state in ill for order in orders_of(hold, state)})
        seen = {"left": 0, "gone": 0}
        for (state, order), deed in foil.items():
            self.assertIs(type(deed), tuple)
            out, warmths, bands = deed
            self.assertEqual((type(out), type(warmths)), (int, list))
            walk = Walk(hold, state)
            if bands is None:
                walk.leave(order, out, warmths)
                seen["left"] += 1
            else:
                self.assertIs(type(bands), list)
                walk.go(order, out, bands, warmths)
                self.assertIsNotNone(ranks[walk.state()])
                self.assertLess(ranks[walk.state()], ranks[state])
                seen["gone"] += 1
        return seen

    def test_some_holds(self):
        left = gone = 0
        for _, hold, states, ranks in some_games(7, 80):
            seen = self.check(hold, states, ranks)
            left += seen["left"]
            gone += seen["gone"]
        self.assertGreater(left, 100)
        self.assertGreater(gone, 100)

    def test_ill_in_many_turns(self):
        hold = fading_hold(cap=12, wood=1)
        state = start_state(hold, (5,), 12)
        ranks = ranks_of(hold, [state])
        self.assertEqual(ranks[state], 15)
        self.check(hold, [state], ranks)

    def test_of_a_kept_state(self):
        hold = fading_hold()
        self.assertEqual(foil_of(hold, [start_state(hold, (0,))]), {})
        # Ill states are met from a kept one, too.
        hold = fading_hold(cap=1, load=1, wood=1)
        self.assertIsNone(ranks_of(hold, [start_state(hold, (5,), 1)])[start_state(hold, (5,), 1)])
        self.assertEqual(foil_of(hold, [start_state(hold, (5,), 1)]), {})
        hold.put_stove(0, (20, 1), wood=1, stay=1)
        states = [start_state(hold, (5,), 1)]
        self.check(hold, states, ranks_of(hold, states))
        self.assertIn((((1,), 0, (1,), (0,), 1), 0), foil_of(hold, states))

    def test_of_a_state_without_an_order(self):
        hold = fading_hold(cap=1, wood=1, stay=1)
        self.assertEqual(foil_of(hold, [((0,), 1, (1,), (0,), 0)]), {})

    def test_by_failing_stoves(self):
        hold = fading_hold(fails=1)
        state = start_state(hold, (0,))
        foil = foil_of(hold, [state])
        self.assertEqual(foil[(state, 1)][0], 1)
        self.assertIsNone(foil[(state, 1)][2])

    # Point 4: against any keeper, whatever it remembers: here one that draws its orders.
    def test_brings_any_keeper_out(self):
        ended = {"left": 0, "no order": 0}
        for source, hold, states, ranks in some_games(8, 80):
            foil = foil_of(hold, states)
            for state in [each for each in ranks if ranks[each] is not None][:20]:
                ended[self.play(hold, foil, state, ranks[state], lambda orders: source.choice(orders))] += 1
        self.assertGreater(min(ended.values()), 10, ended)

    def play(self, hold, foil, state, rank, choose):
        walk = Walk(hold, state)
        while not walk.is_left():
            orders = orders_of(hold, walk.state())
            if not orders:
                self.assertLessEqual(walk.turns(), rank)
                return "no order"
            order = choose(orders)
            out, warmths, bands = foil[(walk.state(), order)]
            if bands is None:
                walk.leave(order, out, warmths)
            else:
                walk.go(order, out, bands, warmths)
            self.assertLessEqual(walk.turns(), rank)
        return "left"

    def test_against_the_made_keeper(self):
        for _, hold, states, ranks in some_games(9, 60):
            foil = foil_of(hold, states)
            keeper = made_keeper(hold, states)
            for state in [each for each in states if ranks[each] is not None]:
                walk = Walk(hold, state)
                while not walk.is_left() and orders_of(hold, walk.state()):
                    order = keeper.wish(0, walk.state())
                    out, warmths, bands = foil[(walk.state(), order)]
                    if bands is None:
                        walk.leave(order, out, warmths)
                    else:
                        walk.go(order, out, bands, warmths)
                # Not later by the foil, and not sooner by the keeper.
                self.assertEqual(walk.turns(), ranks[state])


class RefusalTest(unittest.TestCase):
    def great_hold(self, cap, load=0):
        hold = wide_rooms((4, 4, 5, 5), cap=cap, load=load)
        return hold, [start_state(hold, (0, 0, 0, 0), heap) for heap in range(cap + 1)]

    def test_no_state_ahead_of_too_many(self):
        hold, states = self.great_hold(5)
        wrong = start_state(hold, (0, 0, 0, 0))[:4] + (6,)
        for made in (made_keeper, foil_of):
            refused(self, NoState, lambda: made(hold, [wrong]))
            refused(self, NoState, lambda: made(hold, states + [wrong]))
            refused(self, TooMany, lambda: made(hold, states))
            refused(self, NoState, lambda: made(hold, [states[0], (((GREAT,),) + states[0][1:])]))

    def test_one_more_than_two_thousand(self):
        # The told one without wood, and 400 states for each heap of 1 to 5.
        hold, states = self.great_hold(5, load=1)
        self.assertEqual(len(states_met(hold, states[:1], 2001)), 2001)
        for made in (made_keeper, foil_of):
            refused(self, TooMany, lambda: made(hold, states[:1]))

    def test_just_two_thousand(self):
        hold, states = self.great_hold(4)
        self.assertEqual(len(made_keeper(hold, states).rows), 2000)
        self.assertEqual(foil_of(hold, states), {})
        hold.put_sky(3, (1, 1), (0, 1), (6, 1))
        self.assertEqual(len(foil_of(hold, states)), 5)


class OwnTest(unittest.TestCase):
    def test_told_things_are_the_askers_own(self):
        hold = fading_hold(cap=1, wood=1)
        states = [start_state(hold, (5,), 1)]
        foil = foil_of(hold, states)
        wanted = {key: (out, list(warmths), bands and list(bands)) for key, (out, warmths, bands) in foil.items()}
        for _, warmths, bands in foil.values():
            warmths.clear()
            if bands is not None:
                bands.clear()
        foil.clear()
        self.assertEqual(foil_of(hold, states), wanted)
        self.assertEqual(states, [start_state(hold, (5,), 1)])

    def test_no_list_is_in_two_entries(self):
        hold = shared_hold()
        foil = foil_of(hold, [start_state(hold, (2, 2), 3)])
        lists = [each for _, warmths, bands in foil.values() for each in (warmths, bands) if each is not None]
        self.assertGreater(len(lists), 50)
        self.assertEqual(len({id(each) for each in lists}), len(lists))

    def test_made_keeper_goes_by_the_hold_as_it_was(self):
        hold = fading_hold(cap=2, load=1, wood=1)
        states = [start_state(hold, (5,), 2)]
        keeper = made_keeper(hold, states)
        met = states_met(hold, states)
        wanted = [keeper.wish(0, state) for state in met]
        self.assertIn(1, wanted)
        hold.put_sky(0, (0, 1), (0, 1), (0, 1))
        hold.put_stove(0, (99, 1))
        states.clear()
        self.assertEqual([keeper.wish(0, state) for state in met], wanted)
        self.assertNotEqual([made_keeper(hold, met).wish(0, state) for state in met], wanted)

    def test_holds_are_not_changed(self):
        hold = shared_hold()
        ahead = told(hold)
        made_keeper(hold, [start_state(hold, (0, 0), 3)])
        foil_of(hold, [start_state(hold, (0, 0), 3)])
        self.assertEqual(told(hold), ahead)

    def test_hold_as_it_is_then(self):
        hold = fading_hold()
        state = start_state(hold, (0,))
        self.assertEqual(foil_of(hold, [state]), {})
        hold.put_stove(0, (9, 1))
        self.assertEqual(set(foil_of(hold, [state])), {(state, 0), (state, 1)})
        self.assertIsNone(foil_of(hold, [state])[(state, 1)][2])
        self.assertEqual(fates_of(hold, Clock([1]), [(state, 0)]), {(state, 0): 1})


class InterfaceTest(unittest.TestCase):
    def test_names_and_arguments(self):
        for name in ("made_keeper", "foil_of"):
            self.assertEqual(list(inspect.signature(getattr(makers, name)).parameters), ["hold", "states"])


if __name__ == "__main__":
    unittest.main()
