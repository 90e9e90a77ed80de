"""Courses: all posts, tuples (state, mind), that are met where a keeper goes on from some of them."""

from stoke.errors import NoState, TooMany
from stoke.stoves import heeded, is_state
from stoke.turns import Reach


def look_at_posts(hold, keeper, posts):
    for state, mind in posts:
        if not is_state(hold, state):
            raise NoState("a post has no state of the hold")
        if not 0 <= mind < keeper.minds():
            raise NoState("a post has no mind of the keeper")


def order_at(hold, keeper, post):
    look_at_posts(hold, keeper, [post])
    return order_by(hold, keeper, post)


def order_by(hold, keeper, post):
    state, mind = post
    return heeded(hold, state, keeper.wish(mind, state))


def posts_behind(hold, keeper, post):
    look_at_posts(hold, keeper, [post])
    return posts_after(Reach(hold), keeper, post, order_by(hold, keeper, post))


def posts_after(reach, keeper, post, order):
    if order is None:
        return None
    state, mind = post
    states = reach.states_behind(state, order)
    if states is None:
        return None
    later = keeper.after(mind, state)
    return [(each, later) for each in states]


def course_of(hold, keeper, posts, limit=2000):
    return Course(hold, keeper, posts, limit).met


def is_closed(hold, keeper, posts):
    look_at_posts(hold, keeper, posts)
    listed = dict([(post, True) for post in posts])
    reach = Reach(hold)
    for post in posts:
        behind = posts_after(reach, keeper, post, order_by(hold, keeper, post))
        if behind is None or not all([each in listed for each in behind]):
            return False
    return True


# For each met post, in the same order: the keeper's order, and the places in met of the posts behind it, or None.
class Course:
    def __init__(self, hold, keeper, posts, limit):
        look_at_posts(hold, keeper, posts)
        self.met = []
        self.orders = []
        self.rows = []
        self.places = {}
        self.limit = limit
        for post in posts:
            self.meet(post)
        self.go_on(hold, keeper)

    def go_on(self, hold, keeper):
        reach = Reach(hold)
        while len(self.rows) < len(self.met):
            post = self.met[len(self.rows)]
            order = order_by(hold, keeper, post)
            behind = posts_after(reach, keeper, post, order)
            self.orders.append(order)
            self.rows.append(None if behind is None else [self.meet(each) for each in behind])

    def meet(self, post):
        if post not in self.places:
            if len(self.met) >= self.limit:
                raise TooMany("more posts are met than the limit allows")
            self.places[post] = len(self.met)
            self.met.append(post)
        return self.places[post]
