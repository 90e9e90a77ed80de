"""Rounds: the most wood that a keeper takes in a turn, at worst and in the long run."""

from stoke.courses import Course
from stoke.errors import NotKept
from stoke.fates import fates_along
from stoke.ratios import fraction
from stoke.stoves import wood_of

MOST_POSTS = 300


def rate_of(hold, keeper, post):
    return Fire(hold, keeper, post).rate


def worst_round(hold, keeper, post):
    fire = Fire(hold, keeper, post)
    return [fire.met[place] for place in fire.loop]


def potential_of(hold, keeper, post):
    fire = Fire(hold, keeper, post)
    return dict([(each, fraction(height, fire.rate[1])) for each, height in zip(fire.met, fire.heights)])


def kept_course(hold, keeper, post):
    course = Course(hold, keeper, [post], MOST_POSTS)
    if fates_along(course)[0] is not None:
        raise NotKept("the keeper does not keep every room from that post")
    return course


def rate_along(woods, loop):
    return fraction(sum([woods[place] for place in loop]), len(loop))


def climb_over(rows, woods, loop):
    top, bottom = rate_along(woods, loop)
    return Climb(rows, [wood * bottom - top for wood in woods])


# A round with the greatest rate, as places in met: one is taken, and a better one in its place as long as there is one.
# The heights are the potential, times the rate's bottom.
class Fire:
    def __init__(self, hold, keeper, post):
        course = kept_course(hold, keeper, post)
        self.met = course.met
        woods = [wood_of(hold, state[1]) for state, mind in course.met]
        self.loop = loop_in([max(row, key=lambda place: woods[place]) for row in course.rows])
        climb = climb_over(course.rows, woods, self.loop)
        while climb.loop is not None:
            self.loop = climb.loop
            climb = climb_over(course.rows, woods, self.loop)
        self.rate = rate_along(woods, self.loop)
        self.heights = climb.heights


# A place's height is the most that can be gained from it on, in as many turns as one likes. Where a round gains, there
# is no most: then the steps by which heights grew come to a loop, and each loop of such steps gains.
class Climb:
    def __init__(self, rows, gains):
        self.heights = [0 for row in rows]
        self.steps = [None for row in rows]
        self.loop = None
        while self.loop is None and self.grow(rows, gains):
            self.loop = loop_in(self.steps)

    def grow(self, rows, gains):
        grown = False
        for place, row in enumerate(rows):
            best = max(row, key=lambda behind: gains[behind] + self.heights[behind])
            height = gains[best] + self.heights[best]
            if height > self.heights[place]:
                self.heights[place] = height
                self.steps[place] = best
                grown = True
        return grown


# Some loop of steps, each from a place to one place at most; None where there is none.
def loop_in(steps):
    seen = [None for step in steps]
    for start in range(len(steps)):
        place = start
        while place is not None and seen[place] is None:
            seen[place] = start
            place = steps[place]
        if place is not None and seen[place] == start:
            return loop_from(steps, place)
    return None


def loop_from(steps, place):
    loop = [place]
    while steps[loop[-1]] != place:
        loop.append(steps[loop[-1]])
    return loop
