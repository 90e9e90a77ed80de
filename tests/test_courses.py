import inspect
import random
import unittest

from stoke import courses
from stoke.conditions import colder
from stoke.courses import course_of, is_closed, order_at, posts_behind
from stoke.errors import NoState, StokeError, TooMany
from stoke.holds import Hold
from stoke.keepers import Clock, Either, Keeper, Ruled, Sills, Table
from stoke.stoves import start_state
from tests.telling import plain_course, some_hold, some_keeper, some_state, told, whole_marks

GREAT = 10 ** 59


# A room of six bands that cools, turn by turn, to the lowest of them.
def falling_hold(**bounds):
    hold = Hold(**bounds)
    hold.put_room(whole_marks(0, 10, 20, 30, 40, 50, 60))
    hold.put_sky(0, (1, 2), (1, 1), (9, 1))
    return hold


# A room that may come from each of its bands to each, with a stove that does nothing but burn.
def wide_hold(bands=6):
    hold = Hold(cap=1)
    hold.put_room(whole_marks(*range(bands + 1)))
    hold.put_sky(0, (1, 1), (0, 1), (bands, 1))
    hold.put_stove(0, (0, 1), wood=1)
    return hold


class RefusalTest(unittest.TestCase):
    def refused(self, kind, deed):
        with self.assertRaises(kind) as caught:
            deed()
        self.assertIs(type(caught.exception), kind)
        self.assertIsInstance(caught.exception, StokeError)

    def wrong_posts(self, hold, keeper):
        state = start_state(hold, (0,))
        for mind in (-1, keeper.minds(), keeper.minds() + 1, GREAT, -GREAT):
            yield (state, mind)
        for wrong in (((6,), 0, (0,), (0,), 0), ((0, 0), 0, (0,), (0,), 0), ((0,), 0, (0,), (0,), 2)):
            yield (wrong, 0)
            yield (wrong, keeper.minds())

    def test_no_state(self):
        hold = wide_hold()
        for keeper in (Keeper(), Clock([0, 1, 0])):
            good = (start_state(hold, (0,)), keeper.minds() - 1)
            for post in self.wrong_posts(hold, keeper):
                with self.subTest(post=post):
                    self.refused(NoState, lambda: order_at(hold, keeper, post))
                    self.refused(NoState, lambda: posts_behind(hold, keeper, post))
                    self.refused(NoState, lambda: course_of(hold, keeper, [good, post]))
                    self.refused(NoState, lambda: is_closed(hold, keeper, [good, post]))
            order_at(hold, keeper, good)

    def test_no_state_ahead_of_too_many(self):
        hold = wide_hold()
        good = (start_state(hold, (0,)), 0)
        self.refused(TooMany, lambda: course_of(hold, Keeper(), [good], 1))
        for post in self.wrong_posts(hold, Keeper()):
            self.refused(NoState, lambda: course_of(hold, Keeper(), [good, post], 1))
            self.refused(NoState, lambda: course_of(hold, Keeper(), [good] * 9 + [post], limit=1))

    def test_not_closed_is_no_answer_ahead_of_no_state(self):
        hold = wide_hold()
        hold.put_stove(0, (99, 1))
        keeper = Clock([1])
        good = (start_state(hold, (0,)), 0)
        self.assertIs(is_closed(hold, keeper, [good]), False)
        for post in self.wrong_posts(hold, keeper):
            self.refused(NoState, lambda: is_closed(hold, keeper, [good, post]))

    def test_keepers_are_not_asked_of_wrong_posts(self):
        hold = wide_hold()
        asked = []
        keeper = Ruled([(0, lambda state: asked.append(state) or True)])
        self.refused(NoState, lambda: course_of(hold, keeper, [(start_state(hold, (0,)), 0), (start_state(hold, (0,)), 1)]))
        self.assertEqual(asked, [])


class OrderTest(unittest.TestCase):
    def test_order_is_heeded(self):
        hold = wide_hold()
        for wish, heap, wanted in ((1, 1, 1), (1, 0, 0), (0, 1, 0), (2 ** 60 + 1, 1, 1), (2 ** 60, 1, 0)):
            post = (start_state(hold, (0,), heap), 0)
            self.assertEqual(order_at(hold, Clock([wish]), post), wanted)

    def test_mind(self):
        hold = wide_hold()
        state = start_state(hold, (0,), 1)
        self.assertEqual([order_at(hold, Clock([1, 0, 1]), (state, mind)) for mind in range(3)], [1, 0, 1])

    def test_no_order(self):
        hold = wide_hold()
        hold.put_stove(0, (0, 1), wood=1, stay=1)
        post = (((0,), 1, (1,), (0,), 0), 0)
        self.assertIsNone(order_at(hold, Keeper(), post))
        self.assertIsNone(posts_behind(hold, Keeper(), post))

    def test_unsafe(self):
        hold = wide_hold()
        hold.put_stove(0, (1, 10 ** 29))
        post = (start_state(hold, (0,)), 0)
        self.assertEqual(order_at(hold, Clock([1]), post), 1)
        self.assertIsNone(posts_behind(hold, Clock([1]), post))
        self.assertEqual(len(posts_behind(hold, Keeper(), post)), 6)

    def test_posts_behind(self):
        hold = wide_hold(3)
        keeper = Clock([1, 0])
        found = posts_behind(hold, keeper, (start_state(hold, (0,), 1), 0))
        self.assertEqual(sorted(found), [(((band,), 1, (0,), (0,), 0), 1) for band in range(3)])
        found = posts_behind(hold, keeper, (start_state(hold, (0,), 1), 1))
        self.assertEqual(sorted(found), [(((band,), 0, (0,), (0,), 1), 0) for band in range(3)])

    def test_keeper_sees_the_state_ahead_of_the_turn(self):
        hold = falling_hold()
        hold.put_stove(0, (10, 1))
        keeper = Ruled([(0, colder(0, 1))])
        self.assertEqual(order_at(hold, keeper, (start_state(hold, (0,)), 0)), 1)
        self.assertEqual(order_at(hold, keeper, (start_state(hold, (1,)), 0)), 0)


class CourseTest(unittest.TestCase):
    def test_falling(self):
        hold = falling_hold()
        course = course_of(hold, Keeper(), [(start_state(hold, (5,)), 0)])
        self.assertEqual([post[0][0][0] for post in course][0], 5)
        self.assertEqual(sorted(post[0][0][0] for post in course), [0, 1, 2, 3, 5])

    def test_of_no_posts(self):
        hold = falling_hold()
        self.assertEqual(course_of(hold, Keeper(), []), [])
        self.assertEqual(course_of(hold, Keeper(), [], 1), [])
        self.assertIs(is_closed(hold, Keeper(), []), True)

    def test_a_post_told_twice(self):
        hold = falling_hold()
        post = (start_state(hold, (0,)), 0)
        self.assertEqual(course_of(hold, Keeper(), [post, post, post], 1), [post])
        self.assertIs(is_closed(hold, Keeper(), [post, post]), True)

    def test_posts_that_are_ill_have_none_behind(self):
        hold = wide_hold()
        hold.put_stove(0, (99, 1))
        post = (start_state(hold, (0,)), 0)
        self.assertEqual(course_of(hold, Clock([1]), [post]), [post])

    def test_limit(self):
        hold = wide_hold()
        keeper = Clock([1, 0, 0])
        posts = [(start_state(hold, (0,), 1), 0)]
        many = len(course_of(hold, keeper, posts))
        self.assertEqual(len(course_of(hold, keeper, posts, many)), many)
        self.assertEqual(len(course_of(hold, keeper, posts, limit=GREAT)), many)
        for limit in (many - 1, many - 2, 1):
            with self.assertRaises(TooMany):
                course_of(hold, keeper, posts, limit)
        # What was refused may be asked again.
        self.assertEqual(len(course_of(hold, keeper, posts, many)), many)

    def test_told_posts_count(self):
        hold = falling_hold()
        posts = [(start_state(hold, (band,)), 0) for band in range(4)]
        self.assertEqual(course_of(hold, Keeper(), posts, 4)[:4], posts)
        with self.assertRaises(TooMany):
            course_of(hold, Keeper(), posts, 3)

    # Rooms that may come, from each of their bands, to each; the heap grows by one each turn, up to cap.
    def great_hold(self, bands, cap):
        hold = Hold(cap=cap, load=1)
        for many in bands:
            hold.put_room(whole_marks(*range(many + 1)))
            hold.put_sky(hold.many() - 1, (1, 1), (0, 1), (many, 1))
        return hold

    def test_limit_that_is_left_out(self):
        # One start with a heap of 0, and 400 states for each heap of 1 to 5.
        hold = self.great_hold((4, 4, 5, 5), 5)
        start = [(start_state(hold, (0, 0, 0, 0), 0), 0)]
        with self.assertRaises(TooMany):
            course_of(hold, Keeper(), start)
        self.assertEqual(len(course_of(hold, Keeper(), start, 2001)), 2001)
        with self.assertRaises(TooMany):
            course_of(hold, Keeper(), start, 2000)
        # With a full heap, 400 states for each of five minds.
        full = [(start_state(hold, (0, 0, 0, 0), 5), 0)]
        self.assertEqual(len(course_of(hold, Clock([0] * 5), full)), 2000)

    def test_some_hundreds_of_posts(self):
        hold = self.great_hold((5, 4, 3), 0)
        keeper = Clock([0] * 10)
        course = course_of(hold, keeper, [(start_state(hold, (0, 0, 0)), 0)])
        self.assertEqual(len(course), 600)
        self.assertEqual(len(set(course)), 600)
        self.assertIs(is_closed(hold, keeper, course), True)
        self.assertIs(is_closed(hold, keeper, course[:-1]), False)


class ClosedTest(unittest.TestCase):
    def test_closed(self):
        hold = falling_hold()
        post = [(start_state(hold, (band,)), 0) for band in range(6)]
        self.assertIs(is_closed(hold, Keeper(), [post[0]]), True)
        self.assertIs(is_closed(hold, Keeper(), [post[1]]), False)
        self.assertIs(is_closed(hold, Keeper(), [post[1], post[0]]), True)
        self.assertIs(is_closed(hold, Keeper(), post), True)
        self.assertIs(is_closed(hold, Keeper(), post[1:]), False)

    def test_mind_counts(self):
        hold = falling_hold()
        state = start_state(hold, (0,))
        self.assertIs(is_closed(hold, Clock([0, 0]), [(state, 0)]), False)
        self.assertIs(is_closed(hold, Clock([0, 0]), [(state, 1), (state, 0)]), True)

    def test_ill_posts(self):
        hold = wide_hold()
        hold.put_stove(0, (99, 1))
        posts = [(start_state(hold, (band,)), 0) for band in range(6)]
        self.assertIs(is_closed(hold, Keeper(), posts), True)
        self.assertIs(is_closed(hold, Clock([1]), posts), False)
        hold.put_stove(0, (0, 1), wood=1, stay=1)
        self.assertIs(is_closed(hold, Keeper(), posts + [(((0,), 1, (1,), (0,), 0), 0)]), False)


class SomeTest(unittest.TestCase):
    def check(self, hold, keeper, posts):
        wanted = plain_course(hold, keeper, posts, 150)
        if wanted is None:
            with self.assertRaises(TooMany):
                course_of(hold, keeper, posts, 150)
            return 0
        found = course_of(hold, keeper, posts, len(wanted))
        self.assertIs(type(found), list)
        self.assertEqual(len(found), len(wanted), told(hold))
        self.assertEqual(set(found), set(wanted))
        met = set(posts)
        for post in found:
            # Each is a told one, or stands behind one that is nearer in the list.
            self.assertIn(post, met)
            met.update(wanted[post][1] or ())
        self.check_each(hold, keeper, wanted)
        closed = all(behind is not None for _, behind in wanted.values())
        self.assertIs(is_closed(hold, keeper, found), closed)
        return len(found)

    def check_each(self, hold, keeper, course):
        for post, (order, behind) in list(course.items())[:20]:
            self.assertEqual(order_at(hold, keeper, post), order)
            found = posts_behind(hold, keeper, post)
            if behind is None:
                self.assertIsNone(found)
            else:
                self.assertEqual(len(found), len(behind))
                self.assertEqual(set(found), behind)

    def test_some_holds_and_keepers(self):
        source = random.Random(1)
        many = 0
        for _ in range(60):
            hold = some_hold(source, most_bands=4, mild=True)
            keeper = some_keeper(source, hold)
            posts = [(some_state(source, hold), source.randrange(keeper.minds())) for _ in range(source.randint(1, 3))]
            many += self.check(hold, keeper, posts)
        self.assertGreater(many, 500)


class OwnTest(unittest.TestCase):
    def test_told_lists_are_the_askers_own(self):
        hold = wide_hold()
        posts = [(start_state(hold, (0,)), 0)]
        for deed in (
            lambda: course_of(hold, Keeper(), posts), lambda: posts_behind(hold, Keeper(), posts[0]),
        ):
            ahead = list(deed())
            deed().clear()
            self.assertEqual(deed(), ahead)
        self.assertEqual(posts, [(start_state(hold, (0,)), 0)])

    def test_handed_in_list_is_no_part_of_the_course(self):
        hold = falling_hold()
        posts = [(start_state(hold, (5,)), 0)]
        found = course_of(hold, Keeper(), posts)
        self.assertEqual(len(posts), 1)
        posts.clear()
        self.assertEqual(len(found), 5)

    def test_hold_as_it_is_then(self):
        hold = falling_hold()
        post = (start_state(hold, (3,)), 0)
        keeper = Either(Sills({0: (4, 5)}), Table({post[0]: 1}))
        self.assertEqual(order_at(hold, keeper, post), 0)
        hold.put_stove(0, (20, 1))
        self.assertEqual(order_at(hold, keeper, post), 1)
        self.assertEqual(sorted(state[0][0] for state, _ in posts_behind(hold, keeper, post)), [3, 4])
        hold.put_stove(0, (20, 1), fails=1)
        self.assertEqual(sorted(state[0][0] for state, _ in posts_behind(hold, keeper, post)), [1, 2, 3, 4])
        many = len(course_of(hold, keeper, [post]))
        hold.put_sky(0, (0, 1), (0, 1), (0, 1))
        self.assertNotEqual(len(course_of(hold, keeper, [post])), many)


class InterfaceTest(unittest.TestCase):
    def test_names_and_arguments(self):
        rows = {
            "order_at": "hold keeper post", "posts_behind": "hold keeper post",
            "course_of": "hold keeper posts limit", "is_closed": "hold keeper posts",
        }
        for name, wanted in rows.items():
            with self.subTest(name=name):
                self.assertEqual(list(inspect.signature(getattr(courses, name)).parameters), wanted.split())
        self.assertEqual(inspect.signature(course_of).parameters["limit"].default, 2000)


if __name__ == "__main__":
    unittest.main()
