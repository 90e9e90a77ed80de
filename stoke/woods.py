"""Woods: how much wood, and how many stoves at once, a state needs to be kept."""

from stoke.bits import how_many
from stoke.games import rank_of, ranks_of
from stoke.holds import MOST_BURNING, hold_like
from stoke.stoves import look_at_state


def lasts_by_heap(hold, state):
    look_at_state(hold, state)
    states = [state[:4] + (heap,) for heap in range(hold.cap + 1)]
    ranks = ranks_of(hold, states)
    return [ranks[each] for each in states]


def need_of(hold, state):
    lasts = lasts_by_heap(hold, state)
    return lasts.index(None) if None in lasts else None


def least_load(hold, state):
    look_at_state(hold, state)
    loads = list(range(hold.cap + 1))
    return least_that_keeps(loads, [hold_like(hold, load=load) for load in loads], state)


def least_most(hold, state):
    look_at_state(hold, state)
    mosts = list(range(how_many(state[1]), MOST_BURNING + 1))
    return least_that_keeps(mosts, [hold_like(hold, most=most) for most in mosts], state)


# More wood, or more stoves at once, forbid nothing: a hold keeps what one before it keeps, so halves can be left out.
def least_that_keeps(bounds, holds, state):
    low = 0
    high = len(bounds)
    while low < high:
        middle = (low + high) // 2
        if rank_of(holds[middle], state) is None:
            high = middle
        else:
            low = middle + 1
    return bounds[low] if low < len(bounds) else None
