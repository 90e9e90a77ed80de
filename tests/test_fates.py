import inspect
import random
import unittest
from fractions import Fraction

from stoke import fates
from stoke.conditions import burns, colder
from stoke.courses import course_of, order_at
from stoke.errors import NoState, StokeError, TooMany
from stoke.fates import fates_of, worst_play
from stoke.holds import Hold
from stoke.keepers import Below, Clock, Keeper, Ruled, Sills
from stoke.stoves import orders_of, start_state
from stoke.turns import outcomes
from stoke.walks import Walk
from tests.telling import (
    exact, pair, plain_course, plain_fates, plain_is_within, plain_spans, plain_touched, some_hold, some_keeper,
    some_state, told, whole_marks,
)

GREAT = 10 ** 59


# A room of six bands that is, behind a turn, at least a half of what it was; with a stove that warms it by 30.
def cooling_hold(low=-20, **bounds):
    hold = Hold(**bounds)
    hold.put_room(whole_marks(0, 10, 20, 30, 40, 50, 60))
    hold.put_sky(0, (1, 2), (low, 1), (0, 1))
    hold.put_stove(0, (30, 1))
    return hold


# A stove that must go on for a turn, and wood for one turn alone.
def starved_hold(wood=1, heap=1, load=0, stay=1):
    hold = Hold(cap=heap, load=load)
    hold.put_room(whole_marks(0, 10, 20))
    hold.put_stove(0, (0, 1), wood=wood, stay=stay)
    return hold


def post_of(hold, band, heap=0, mind=0):
    return (start_state(hold, (band,), heap), mind)


def fate_of(hold, keeper, post):
    return fates_of(hold, keeper, [post])[post]


class FatesTest(unittest.TestCase):
    def test_no_order(self):
        hold = starved_hold()
        post = (((0,), 1, (1,), (0,), 0), 0)
        self.assertEqual(fates_of(hold, Keeper(), [post]), {post: 0})

    def test_unsafe_order(self):
        hold = cooling_hold()
        post = post_of(hold, 0)
        self.assertEqual(fates_of(hold, Keeper(), [post]), {post: 1})
        # From 60 it comes, with 30 of the stove, to 60 again, just its bound.
        post = post_of(hold, 5)
        self.assertIsNone(fate_of(hold, Clock([1]), post))
        hold.put_stove(0, pair(30 + Fraction(1, 10 ** 28)))
        self.assertEqual(fates_of(hold, Clock([1]), [post]), {post: 1})

    def test_cooling(self):
        hold = cooling_hold()
        # From 50, to 15 at the least; from 10 to nought and less, so to bounds left. From 20 to 30: 0 to 15.
        self.assertEqual(fates_of(hold, Keeper(), [post_of(hold, 5)]), {
            post_of(hold, 5): 2, post_of(hold, 1): 1, post_of(hold, 2): 2, post_of(hold, 3): 2, post_of(hold, 0): 1,
        })

    def test_never_ill(self):
        hold = cooling_hold(0)
        found = fates_of(hold, Keeper(), [post_of(hold, 5)])
        self.assertEqual(set(found.values()), {None})
        self.assertEqual(len(found), 5)

    def test_kept_by_a_keeper(self):
        hold = cooling_hold()
        self.assertEqual(fate_of(hold, Keeper(), post_of(hold, 2)), 2)
        found = fates_of(hold, Ruled([(0, colder(0, 3))]), [post_of(hold, 2)])
        self.assertEqual(set(found.values()), {None})
        self.assertEqual(fate_of(hold, Sills({0: (3, 3)}), post_of(hold, 2)), None)

    def test_some_kept_and_some_ill(self):
        hold = cooling_hold(0)
        hold.put_stove(0, (31, 1))
        keeper = Ruled([(0, burns(0))])
        lit = (((5,), 1, (0,), (0,), 0), 0)
        found = fates_of(hold, keeper, [post_of(hold, 0), lit])
        self.assertEqual(found[lit], 1)
        self.assertEqual(found[post_of(hold, 0)], None)

    def test_want_of_an_order(self):
        hold = starved_hold()
        self.assertEqual(fate_of(hold, Clock([1]), post_of(hold, 0, 1)), 1)
        self.assertEqual(fate_of(hold, Clock([0, 0, 1]), post_of(hold, 0, 1)), 3)
        self.assertEqual(fate_of(hold, Clock([0, 0, 1]), post_of(hold, 0, 1, mind=1)), 2)
        self.assertEqual(fate_of(hold, Clock([0, 0, 1]), post_of(hold, 0, 0)), None)
        self.assertEqual(fate_of(starved_hold(heap=2), Clock([1]), post_of(hold, 0, 1)), 1)
        self.assertEqual(fate_of(starved_hold(heap=2), Clock([1]), post_of(starved_hold(heap=2), 0, 2)), None)

    def test_in_many_turns(self):
        hold = starved_hold()
        for many in (1, 2, 12, 24):
            keeper = Clock([0] * (many - 1) + [1])
            self.assertEqual(fate_of(hold, keeper, post_of(hold, 0, 1)), many)

    def test_of_no_posts(self):
        self.assertEqual(fates_of(cooling_hold(), Keeper(), []), {})

    def test_limit(self):
        hold = cooling_hold()
        posts = [post_of(hold, 5), post_of(hold, 5)]
        self.assertEqual(len(fates_of(hold, Keeper(), posts, 5)), 5)
        with self.assertRaises(TooMany) as caught:
            fates_of(hold, Keeper(), posts, limit=4)
        self.assertIsInstance(caught.exception, StokeError)
        self.assertEqual(len(fates_of(hold, Keeper(), posts, limit=5)), 5)

    def test_some_holds_and_keepers(self):
        source = random.Random(1)
        seen = {}
        for _ in range(120):
            hold = some_hold(source, most_bands=4, mild=True)
            keeper = some_keeper(source, hold)
            posts = [(some_state(source, hold), source.randrange(keeper.minds())) for _ in range(2)]
            course = plain_course(hold, keeper, posts, 120)
            if course is None:
                with self.assertRaises(TooMany):
                    fates_of(hold, keeper, posts, 120)
                continue
            wanted = plain_fates(course)
            self.assertEqual(fates_of(hold, keeper, posts), wanted, told(hold))
            for fate in wanted.values():
                seen[fate] = seen.get(fate, 0) + 1
        for fate in (None, 0, 1, 2, 3, 4):
            self.assertGreater(seen[fate], 5, seen)

    def test_fates_by_their_own_words(self):
        source = random.Random(2)
        for _ in range(60):
            hold = some_hold(source, most_rooms=3, mild=True)
            keeper = some_keeper(source, hold)
            try:
                found = fates_of(hold, keeper, [(some_state(source, hold), 0)], 500)
            except TooMany:
                continue
            for (state, mind), fate in found.items():
                order = order_at(hold, keeper, (state, mind))
                states = None if order is None else outcomes(hold, state, order)
                if states is None:
                    self.assertEqual(fate, 0 if order is None else 1)
                    continue
                behind = [found[(each, keeper.after(mind, state))] for each in states]
                ill = [each for each in behind if each is not None]
                self.assertEqual(fate, min(ill) + 1 if ill else None)


class PlayTest(unittest.TestCase):
    # Looks at all that point 30 says of a play, and tells how it ended.
    def follow(self, hold, keeper, post, fate):
        play = worst_play(hold, keeper, post)
        if fate is None:
            self.assertIsNone(play)
            return "kept"
        self.assertIs(type(play), list)
        self.assertEqual(len(play), fate, told(hold))
        walk = Walk(hold, post[0])
        mind = post[1]
        for place, step in enumerate(play):
            self.assertEqual([type(part) for part in step[:3]], [int, int, list])
            order, out, warmths, bands = step
            self.assertEqual(order, order_at(hold, keeper, (walk.state(), mind)))
            mind = keeper.after(mind, walk.state())
            if bands is None:
                self.assertEqual(place, len(play) - 1)
                walk.leave(order, out, warmths)
            else:
                self.assertIs(type(bands), list)
                walk.go(order, out, bands, warmths)
        self.assertEqual(walk.turns(), fate)
        if not walk.is_left():
            self.assertEqual(orders_of(hold, walk.state()), [])
            return "no order"
        return "left"

    def test_of_no_step(self):
        post = (((0,), 1, (1,), (0,), 0), 0)
        self.assertEqual(worst_play(starved_hold(), Keeper(), post), [])

    def test_of_a_kept_post(self):
        hold = cooling_hold(0)
        self.assertIsNone(worst_play(hold, Keeper(), post_of(hold, 5)))

    def test_of_one_leaving(self):
        hold = cooling_hold()
        play = worst_play(hold, Keeper(), post_of(hold, 0))
        self.assertEqual(len(play), 1)
        self.assertEqual((play[0][0], play[0][1], play[0][3]), (0, 0, None))
        self.assertEqual(self.follow(hold, Keeper(), post_of(hold, 0), 1), "left")
        # Too warm it may be, too.
        hold.put_stove(0, (31, 1))
        self.assertEqual(self.follow(hold, Clock([1]), post_of(hold, 5), 1), "left")

    def test_a_very_little_beyond_a_bound(self):
        little = Fraction(1, 10 ** 29)
        for low, high, band in ((-little, 30, 0), (0, 60 + little, 5)):
            hold = Hold()
            hold.put_room(whole_marks(0, 10, 20, 30, 40, 50, 60))
            hold.put_sky(0, (1, 2), pair(Fraction(low)), pair(Fraction(high)))
            self.assertEqual(self.follow(hold, Keeper(), post_of(hold, band), 1), "left")

    def test_leaving_with_some_rooms_within(self):
        hold = cooling_hold()
        hold.put_room(whole_marks(0, 10))
        hold.put_room(whole_marks(5, 10))
        hold.put_sky(2, (1, 1), (-1, 1), (20, 1))
        self.assertEqual(self.follow(hold, Keeper(), (start_state(hold, (5, 0, 0)), 0), 1), "left")

    def test_for_want_of_an_order(self):
        hold = starved_hold()
        self.assertEqual(self.follow(hold, Clock([1]), post_of(hold, 0, 1), 1), "no order")
        self.assertEqual(self.follow(hold, Clock([0, 0, 0, 1]), post_of(hold, 0, 1), 4), "no order")
        play = worst_play(hold, Clock([0, 1]), post_of(hold, 0, 1))
        self.assertEqual([(step[0], step[1]) for step in play], [(0, 0), (1, 0)])
        self.assertTrue(all(step[3] is not None for step in play))

    def test_by_failing_stoves(self):
        hold = Hold()
        hold.put_room(whole_marks(0, 10, 20))
        hold.put_sky(0, (1, 2), (-2, 1), (0, 1))
        hold.put_stove(0, (6, 1), fails=2)
        # Where the stove lights, all is well: it must fail, and only where it has not failed too often.
        post = post_of(hold, 0)
        self.assertEqual(self.follow(hold, Clock([1]), post, 1), "left")
        self.assertEqual(worst_play(hold, Clock([1]), post)[0][:2], (1, 1))
        self.assertIsNone(worst_play(hold, Clock([1]), (((0,), 0, (0,), (2,), 0), 0)))
        self.assertEqual(self.follow(hold, Clock([1]), post_of(hold, 1), 2), "left")
        self.assertIsNone(worst_play(hold, Clock([1]), (((1,), 0, (0,), (2,), 0), 0)))

    def test_many_turns(self):
        hold = starved_hold()
        self.assertEqual(self.follow(hold, Clock([0] * 23 + [1]), post_of(hold, 0, 1), 24), "no order")
        hold = Hold(cap=30)
        hold.put_room([(0, 1), (1, 1), (10 ** 9, 1)])
        hold.put_sky(0, (1, 2), (0, 1), (10 ** 9, 1))
        hold.put_stove(0, (0, 1), wood=1, stay=1)
        # The stove burns down the heap to one, is put out for a cold turn, waits for one, and is lit once more.
        keeper = Below(0, 1, Keeper(), Clock([1]))
        self.assertEqual(self.follow(hold, keeper, post_of(hold, 1, 30), 32), "no order")

    def test_some_holds_and_keepers(self):
        source = random.Random(3)
        seen = {"kept": 0, "left": 0, "no order": 0}
        longest = 0
        for _ in range(200):
            hold = some_hold(source, most_bands=5, mild=True)
            keeper = some_keeper(source, hold)
            post = (some_state(source, hold), source.randrange(keeper.minds()))
            try:
                fate = fates_of(hold, keeper, [post])[post]
            except TooMany:
                with self.assertRaises(TooMany):
                    worst_play(hold, keeper, post)
                continue
            longest = max(longest, fate or 0)
            seen[self.follow(hold, keeper, post, fate)] += 1
        self.assertGreater(min(seen.values()), 10, seen)
        self.assertGreater(longest, 4)

    def test_many_figures(self):
        source = random.Random(4)
        left = 0
        for _ in range(40):
            hold = some_hold(source, most_rooms=3, most_bands=3, figures=5, mild=True)
            keeper = some_keeper(source, hold, 1)
            post = (some_state(source, hold), 0)
            left += self.follow(hold, keeper, post, fate_of(hold, keeper, post)) == "left"
        self.assertGreater(left, 3)


class KeptTest(unittest.TestCase):
    # Point 4: a keeper whose fate is None keeps every room, whatever warmths, bands and failing stoves come.
    def test_kept_posts_stay_within_their_bounds(self):
        source = random.Random(5)
        kept = 0
        while kept < 25:
            hold = some_hold(source, most_rooms=3, mild=True)
            keeper = some_keeper(source, hold)
            post = (some_state(source, hold), 0)
            try:
                fate = fate_of(hold, keeper, post)
            except TooMany:
                continue
            if fate is None:
                kept += 1
                self.go_along(source, hold, keeper, post)

    def go_along(self, source, hold, keeper, post):
        walk = Walk(hold, post[0])
        mind = post[1]
        for _ in range(30):
            order = order_at(hold, keeper, (walk.state(), mind))
            state = source.choice(outcomes(hold, walk.state(), order))
            for room, (least, greatest) in enumerate(plain_spans(hold, walk.state(), state[1])):
                self.assertTrue(plain_is_within(hold, room, least, greatest))
                self.assertIn(state[0][room], plain_touched(hold, room, least, greatest))
            mind = keeper.after(mind, walk.state())
            walk.go(order, order & ~state[1], state[0])
            self.assertEqual(walk.state(), state)


class RefusalTest(unittest.TestCase):
    def refused(self, kind, deed):
        with self.assertRaises(kind) as caught:
            deed()
        self.assertIs(type(caught.exception), kind)

    def test_no_state(self):
        hold = cooling_hold()
        keeper = Clock([0, 1])
        good = post_of(hold, 5)
        for post in (
            (good[0], -1), (good[0], 2), (good[0], GREAT), (((6,), 0, (0,), (0,), 0), 0),
            (((0,), 0, (0,), (1,), 0), 0), (((0,), 0, (0,), (0,), 1), 2),
        ):
            with self.subTest(post=post):
                self.refused(NoState, lambda: fates_of(hold, keeper, [post]))
                self.refused(NoState, lambda: fates_of(hold, keeper, [good, post], 1))
                self.refused(NoState, lambda: worst_play(hold, keeper, post))
        self.refused(TooMany, lambda: fates_of(hold, keeper, [good], 1))

    def test_too_many(self):
        hold = Hold(cap=5, load=1)
        for bands in (4, 4, 5, 5):
            hold.put_room(whole_marks(*range(bands + 1)))
            hold.put_sky(hold.many() - 1, (1, 1), (0, 1), (bands, 1))
        start = (start_state(hold, (0, 0, 0, 0)), 0)
        self.refused(TooMany, lambda: fates_of(hold, Keeper(), [start]))
        self.refused(TooMany, lambda: worst_play(hold, Keeper(), start))
        full = (start_state(hold, (0, 0, 0, 0), 5), 0)
        self.assertIsNone(worst_play(hold, Clock([0] * 5), full))


class OwnTest(unittest.TestCase):
    def test_told_things_are_the_askers_own(self):
        hold = cooling_hold()
        post = post_of(hold, 5)
        ahead = dict(fates_of(hold, Keeper(), [post]))
        fates_of(hold, Keeper(), [post]).clear()
        self.assertEqual(fates_of(hold, Keeper(), [post]), ahead)
        play = worst_play(hold, Keeper(), post)
        wanted = [(order, out, list(warmths), bands and list(bands)) for order, out, warmths, bands in play]
        play[0][2].clear()
        play[0][3].clear()
        play.clear()
        self.assertEqual(worst_play(hold, Keeper(), post), wanted)

    def test_handed_in_list_is_not_changed(self):
        hold = cooling_hold()
        posts = [post_of(hold, 5)]
        fates_of(hold, Keeper(), posts)
        self.assertEqual(posts, [post_of(hold, 5)])

    def test_hold_as_it_is_then(self):
        hold = cooling_hold()
        post = post_of(hold, 5)
        self.assertEqual(fate_of(hold, Keeper(), post), 2)
        hold.put_sky(0, (1, 2), (0, 1), (0, 1))
        self.assertIsNone(fate_of(hold, Keeper(), post))
        self.assertIsNone(worst_play(hold, Keeper(), post))
        hold.put_sky(0, (1, 1), (-1, 1), (0, 1))
        self.assertEqual(fate_of(hold, Keeper(), post), 1)
        self.assertEqual(exact(worst_play(hold, Keeper(), post)[0][2][0]), -1)

    def test_all_posts_of_the_course(self):
        hold = cooling_hold()
        posts = [post_of(hold, 5), post_of(hold, 4)]
        self.assertEqual(set(fates_of(hold, Keeper(), posts)), set(course_of(hold, Keeper(), posts)))


class InterfaceTest(unittest.TestCase):
    def test_names_and_arguments(self):
        rows = {"fates_of": "hold keeper posts limit", "worst_play": "hold keeper post"}
        for name, wanted in rows.items():
            with self.subTest(name=name):
                self.assertEqual(list(inspect.signature(getattr(fates, name)).parameters), wanted.split())
        self.assertEqual(inspect.signature(fates_of).parameters["limit"].default, 2000)


if __name__ == "__main__":
    unittest.main()
