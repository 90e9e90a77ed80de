import inspect
import random
import unittest
from fractions import Fraction

from stoke import rounds
from stoke.bits import members
from stoke.conditions import burns, colder, one_of
from stoke.courses import course_of, posts_behind
from stoke.errors import NoState, NotKept, TooMany
from stoke.fates import fates_of
from stoke.holds import Hold, hold_like
from stoke.keepers import Below, Clock, Either, Keeper, Pair, Ruled, Sills, Table, Together
from stoke.makers import made_keeper
from stoke.rounds import potential_of, rate_of, worst_round
from stoke.stoves import start_state, wood_of
from tests.telling import (
    exact, plain_rate, plain_wood, refused, small_hold, some_keeper, some_state, told, whole_marks, wide_rooms,
)

GREAT = 10 ** 59
ALL = (rate_of, worst_round, potential_of)


# Rooms that may come from each of their bands to each, with stoves that do nothing but burn.
def wide_hold(bands, woods, cap=30, load=30, **stove):
    hold = wide_rooms(bands, cap=cap, load=load)
    for room, wood in enumerate(woods):
        hold.put_stove(room, (0, 1), wood, **stove)
    return hold


def post_of(hold, mind=0, heap=None):
    return (start_state(hold, (0,) * hold.many(), hold.cap if heap is None else heap), mind)


def all_refused(test, kind, hold, keeper, post):
    for asked in ALL:
        refused(test, kind, lambda: asked(hold, keeper, post))


class RoundTest(unittest.TestCase):
    # Looks at all that point 36 says of the three, and tells the rate and the length of the round.
    def check(self, hold, keeper, post):
        met = course_of(hold, keeper, [post])
        behind = {each: posts_behind(hold, keeper, each) for each in met}
        rate = rate_of(hold, keeper, post)
        self.assertEqual((type(rate), len(rate)), (tuple, 2))
        self.assertEqual(rate, (exact(rate).numerator, exact(rate).denominator))
        loop = worst_round(hold, keeper, post)
        self.assertIs(type(loop), list)
        self.assertGreater(len(loop), 0)
        self.assertEqual(len(set(loop)), len(loop))
        for one, other in zip(loop, loop[1:] + loop[:1]):
            self.assertIn(other, behind[one])
        taken = sum(plain_wood(hold, members(state[1])) for state, _ in loop)
        self.assertEqual(Fraction(taken, len(loop)), exact(rate))
        potential = potential_of(hold, keeper, post)
        self.assertIs(type(potential), dict)
        self.assertEqual(set(potential), set(met))
        for each in met:
            self.assertEqual(potential[each], (exact(potential[each]).numerator, exact(potential[each]).denominator))
            for later in behind[each]:
                wood = plain_wood(hold, members(later[0][1]))
                self.assertLessEqual(wood + exact(potential[later]), exact(rate) + exact(potential[each]))
        return (rate, len(loop))

    def test_a_post_that_stands_behind_itself(self):
        hold = Hold(cap=9, load=4)
        hold.put_room(whole_marks(0, 10))
        hold.put_stove(0, (0, 1), wood=3)
        self.assertEqual(worst_round(hold, Keeper(), post_of(hold)), [post_of(hold)])
        self.assertEqual(self.check(hold, Keeper(), post_of(hold)), ((0, 1), 1))
        self.assertEqual(self.check(hold, Clock([1]), post_of(hold)), ((3, 1), 1))

    def test_rates_that_are_not_whole(self):
        hold = Hold(cap=9, load=4)
        hold.put_room(whole_marks(0, 10))
        hold.put_stove(0, (0, 1), wood=3)
        for wishes, wanted in (
            ([1, 0], (3, 2)), ([1, 0, 0], (1, 1)), ([0, 1, 0, 0], (3, 4)), ([1, 1, 0, 1, 0], (9, 5)),
            ([1] + [0] * 23, (1, 8)), ([1] * 23 + [0], (23, 8)),
        ):
            for mind in (0, len(wishes) - 1):
                self.assertEqual(self.check(hold, Clock(wishes), post_of(hold, mind)), (wanted, len(wishes)))

    def test_wood_of_what_burns_behind(self):
        # A stove that fails to light takes nothing: at worst it never fails.
        hold = wide_hold((1,), (4,), fails=3)
        self.assertEqual(self.check(hold, Clock([1, 0]), post_of(hold))[0], (2, 1))
        # Nor does one that is put out, though it burned in the turn before.
        self.assertEqual(self.check(hold, Clock([1, 0, 0, 0]), post_of(hold))[0], (1, 1))

    def test_what_the_load_brings(self):
        # It burns as soon as there is wood for it, in the long run what comes.
        for load, wanted in ((0, (0, 1)), (1, (1, 1)), (2, (2, 1)), (5, (5, 1)), (6, (5, 1))):
            hold = wide_hold((1,), (5,), cap=12, load=load)
            self.assertEqual(self.check(hold, Clock([1]), post_of(hold))[0], wanted)

    def test_weather_does_its_worst(self):
        # The weather may keep the room in any band: the keeper burns the more the colder it is.
        hold = wide_hold((3, 2), (2, 5))
        self.assertEqual(self.check(hold, Sills({0: (1, 1)}), post_of(hold))[0], (2, 1))
        self.assertEqual(self.check(hold, Sills({0: (1, 1), 1: (1, 2)}), post_of(hold))[0], (7, 1))
        keeper = Below(0, 1, Clock([2, 0]), Clock([1, 1, 0]))
        self.assertEqual(self.check(hold, keeper, post_of(hold))[0], (5 + 2 + 5 + 1 * 2 + 5 + 0, 6))

    def test_rate_of_what_is_met_alone(self):
        # A dear round that can't be come to does not count, nor what is taken ahead of all rounds.
        hold = Hold(cap=30, load=30)
        hold.put_room(whole_marks(0, 10, 20))
        hold.put_sky(0, (1, 2), (15, 1), (15, 1))
        hold.put_stove(0, (0, 1), wood=9)
        keeper = Ruled([(0, one_of(burns(0), colder(0, 1)))])
        post = (start_state(hold, (1,), 30), 0)
        self.assertEqual(self.check(hold, keeper, post), ((0, 1), 1))
        self.assertEqual(self.check(hold, keeper, post_of(hold))[0], (9, 1))
        lit = (((1,), 1, (0,), (0,), 30), 0)
        self.assertEqual(self.check(hold, Keeper(), lit), ((0, 1), 1))

    def test_one_rate_in_several_lengths(self):
        hold = wide_hold((4,), (3,))
        # By one mind or the other there are rounds of one, two, three and four posts, all of rate 3.
        self.assertEqual(self.check(hold, Clock([1]), post_of(hold))[0], (3, 1))
        self.assertEqual(self.check(hold, Keeper(), post_of(hold))[0], (0, 1))
        self.assertEqual(self.check(hold, Clock([1, 0]), post_of(hold))[0], (3, 2))

    def test_stoves_that_stay(self):
        # Lit for a turn it burns for three, and then is out for three.
        hold = Hold(cap=30, load=30)
        hold.put_room(whole_marks(0, 10))
        hold.put_stove(0, (0, 1), wood=4, stay=2)
        keeper = Ruled([(0, lambda state: state[1] == 0)])
        self.assertEqual(self.check(hold, keeper, post_of(hold)), ((2, 1), 6))

    def test_keepers_of_each_class(self):
        hold = wide_hold((2, 2), (1, 2))
        one, other = Clock([1, 2]), Sills({0: (1, 2)})
        rows = {start_state(hold, (band, 0), 30): 3 for band in range(2)}
        for keeper, wanted in (
            (Keeper(), (0, 1)), (Ruled([(0, colder(1, 1)), (1, burns(1))]), (1, 1)), (Sills({1: (0, 1)}), (0, 1)),
            (Clock([3, 1, 0]), (4, 3)), (Table(rows), (3, 2)), (Table(rows, one), (3, 2)), (Pair(one, other), (3, 2)),
            (Either(one, other), (2, 1)), (Together(one, other), (1, 2)), (Below(1, 1, one, other), (3, 2)),
        ):
            with self.subTest(keeper=type(keeper).__name__):
                found = self.check(hold, keeper, post_of(hold))[0]
                self.assertEqual(exact(found), self.plain(hold, keeper, post_of(hold)))
                self.assertEqual(found, wanted)

    def plain(self, hold, keeper, post):
        met = course_of(hold, keeper, [post])
        places = {each: place for place, each in enumerate(met)}
        rows = [[places[later] for later in posts_behind(hold, keeper, each)] for each in met]
        return plain_rate(rows, [plain_wood(hold, members(state[1])) for state, _ in met])

    def test_some_holds_and_keepers(self):
        source = random.Random(1)
        seen = {"whole": 0, "broken": 0, "nought": 0}
        longest = 0
        while min(seen.values()) < 12:
            hold = hold_like(small_hold(source), load=source.randint(1, 5))
            keeper = some_keeper(source, hold)
            post = (some_state(source, hold), source.randrange(keeper.minds()))
            try:
                kept = fates_of(hold, keeper, [post], 150)[post] is None
            except TooMany:
                continue
            if not kept:
                all_refused(self, NotKept, hold, keeper, post)
                continue
            rate, length = self.check(hold, keeper, post)
            self.assertEqual(exact(rate), self.plain(hold, keeper, post), told(hold))
            seen["nought" if rate[0] == 0 else "whole" if rate[1] == 1 else "broken"] += 1
            longest = max(longest, length)
        self.assertGreater(longest, 3)

    def test_made_keeper(self):
        hold = Hold(most=2, cap=6, load=3)
        for low in (-20, -26):
            room = hold.put_room(whole_marks(0, 8, 16, 24))
            hold.put_sky(room, (1, 4), (low, 1), (low + 8, 1))
        hold.put_stove(0, (9, 1), wood=1, fails=1)
        hold.put_stove(1, (10, 1), wood=2, stay=1)
        state = start_state(hold, (2, 2), 6)
        keeper = made_keeper(hold, [state])
        rate, _ = self.check(hold, keeper, (state, 0))
        self.assertEqual(exact(rate), self.plain(hold, keeper, (state, 0)))
        self.assertLessEqual(exact(rate), 3)

    def test_just_three_hundred(self):
        hold = wide_hold((5, 4, 3), (1, 2, 3))
        post = post_of(hold)
        keeper = Clock([7, 1, 2, 4, 0])
        self.assertEqual(len(course_of(hold, keeper, [post])), 300)
        self.assertEqual(rate_of(hold, keeper, post), (12, 5))
        self.assertEqual(len(worst_round(hold, keeper, post)) % 5, 0)
        self.assertEqual(len(potential_of(hold, keeper, post)), 300)
        # One post more: the told one, whose heap is not full yet.
        all_refused(self, TooMany, hold, keeper, post_of(hold, heap=29))
        self.assertEqual(len(course_of(hold, keeper, [post_of(hold, heap=29)])), 301)
        all_refused(self, TooMany, hold, Clock([0] * 6), post)


class RefusalTest(unittest.TestCase):
    def test_no_state(self):
        hold = wide_hold((5, 4, 3), (1, 2, 3))
        state = post_of(hold)[0]
        for keeper in (Keeper(), Clock([1, 0]), Clock([0] * 6)):
            for post in (
                (state, -1), (state, keeper.minds()), (state, GREAT), (((5,) + state[0][1:],) + state[1:], 0),
                (state[:4] + (31,), 0), (state[:4] + (-1,), 0), (((0,), 0, (0,), (0,), 0), 0),
            ):
                with self.subTest(post=post):
                    all_refused(self, NoState, hold, keeper, post)
            self.assertEqual(len(course_of(hold, keeper, [(state, 0)])), 60 * keeper.minds())

    def test_too_many_ahead_of_not_kept(self):
        hold = wide_hold((5, 4, 3), (1, 2, 3))
        hold.put_stove(0, (1, 1))
        keeper = Clock([0] * 5 + [1])
        self.assertIsNotNone(fates_of(hold, keeper, [post_of(hold)])[post_of(hold)])
        all_refused(self, TooMany, hold, keeper, post_of(hold))
        # Of fewer posts, not kept: in the first turn, and in a later one.
        for wishes in ([1], [0, 1], [0, 0, 0, 1]):
            all_refused(self, NotKept, hold, Clock(wishes), post_of(hold))
        self.assertEqual(rate_of(hold, Clock([0, 0, 0, 4]), post_of(hold)), (3, 4))

    def test_not_kept_for_want_of_an_order(self):
        hold = wide_hold((2,), (1,), cap=3, load=0, stay=3)
        all_refused(self, NotKept, hold, Clock([1]), post_of(hold))
        all_refused(self, NotKept, hold, Keeper(), (((0,), 1, (1,), (0,), 0), 0))
        self.assertEqual(rate_of(hold, Keeper(), post_of(hold)), (0, 1))

    def test_what_was_refused_may_be_asked_again(self):
        hold = wide_hold((2,), (1,), cap=3, load=0, stay=3)
        all_refused(self, NotKept, hold, Clock([1]), post_of(hold))
        hold.put_stove(0, (0, 1), wood=1)
        self.assertEqual(rate_of(hold, Clock([1]), post_of(hold)), (0, 1))


class OwnTest(unittest.TestCase):
    def test_told_things_are_the_askers_own(self):
        hold = wide_hold((3,), (2,))
        keeper = Clock([1, 0])
        for asked in (worst_round, potential_of):
            ahead = asked(hold, keeper, post_of(hold))
            wanted = ahead.copy()
            asked(hold, keeper, post_of(hold)).clear()
            self.assertEqual(ahead, wanted)
            ahead.clear()
            self.assertEqual(asked(hold, keeper, post_of(hold)), wanted)

    def test_hold_as_it_is_then(self):
        hold = wide_hold((3,), (2,))
        keeper = Clock([1, 0])
        ahead = told(hold)
        self.assertEqual(rate_of(hold, keeper, post_of(hold)), (1, 1))
        worst_round(hold, keeper, post_of(hold))
        potential_of(hold, keeper, post_of(hold))
        self.assertEqual(told(hold), ahead)
        hold.put_stove(0, (0, 1), wood=7)
        self.assertEqual(rate_of(hold, keeper, post_of(hold)), (7, 2))
        self.assertEqual(wood_of(hold, 1), 7)
        hold.put_stove(0, (1, 1), wood=7)
        with self.assertRaises(NotKept):
            rate_of(hold, keeper, post_of(hold))


class InterfaceTest(unittest.TestCase):
    def test_names_and_arguments(self):
        for asked in ALL:
            parameters = inspect.signature(getattr(rounds, asked.__name__)).parameters
            self.assertEqual(list(parameters), ["hold", "keeper", "post"])


if __name__ == "__main__":
    unittest.main()
