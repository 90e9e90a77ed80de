"""Fates: in how few turns a post is ill, and a play in exact warmths that makes it so."""

from stoke.bits import has_room, subsets
from stoke.courses import Course
from stoke.ratios import under
from stoke.spans import span_of, within
from stoke.stoves import failing

MOST_POSTS = 2000


def fates_of(hold, keeper, posts, limit=2000):
    course = Course(hold, keeper, posts, limit)
    return dict(zip(course.met, fates_along(course)))


# In the queue no fate is less than one before it, so the first one that a post is given is its least.
def fates_along(course):
    fates = [fate_at_once(order, row) for order, row in zip(course.orders, course.rows)]
    queue = [place for place, fate in enumerate(fates) if fate == 0]
    queue.extend([place for place, fate in enumerate(fates) if fate == 1])
    ahead = places_ahead(course.rows)
    done = 0
    while done < len(queue):
        here = queue[done]
        for place in ahead[here]:
            if fates[place] is None:
                fates[place] = fates[here] + 1
                queue.append(place)
        done += 1
    return fates


def fate_at_once(order, row):
    if order is None:
        return 0
    return 1 if row is None else None


def places_ahead(rows):
    ahead = [[] for row in rows]
    for place, row in enumerate(rows):
        if row is not None:
            for behind in row:
                ahead[behind].append(place)
    return ahead


def worst_play(hold, keeper, post):
    course = Course(hold, keeper, [post], MOST_POSTS)
    fates = fates_along(course)
    if fates[0] is None:
        return None
    play = []
    place = 0
    while fates[place] > 0:
        state = course.met[place][0]
        order = course.orders[place]
        row = course.rows[place]
        if row is None:
            play.append(step_out(hold, state, order))
            return play
        place = worst_of(row, fates, fates[place] - 1)
        play.append(step_to(hold, state, order, course.met[place][0]))
    return play


def worst_of(row, fates, fate):
    return [place for place in row if fates[place] == fate][0]


def spans_behind(hold, state, burning):
    return [span_of(hold, room, state[0], has_room(burning, room)) for room in range(hold.many())]


def step_to(hold, state, order, behind):
    bands = list(behind[0])
    spans = spans_behind(hold, state, behind[1])
    warmths = [warmth_in(hold.marks(room)[bands[room]], span[0]) for room, span in enumerate(spans)]
    return (order, order & ~behind[1], warmths, bands)


# Where a span touches a band, the greater one of their least warmths is in both.
def warmth_in(mark, least):
    return least if under(mark, least) else mark


def is_safe(hold, state, burning):
    spans = spans_behind(hold, state, burning)
    return all([within(hold, room, span[0], span[1]) for room, span in enumerate(spans)])


def step_out(hold, state, order):
    outs = [out for out in subsets(failing(hold, state, order)) if not is_safe(hold, state, order & ~out)]
    spans = spans_behind(hold, state, order & ~outs[0])
    return (order, outs[0], [farthest(hold, room, span) for room, span in enumerate(spans)], None)


def farthest(hold, room, span):
    return span[0] if under(span[0], hold.marks(room)[0]) else span[1]
