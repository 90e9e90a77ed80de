"""Makers: the keeper that lasts longest, and the foil by which the weather makes each ill state so in time."""

from stoke.fates import step_out, step_to, worst_of
from stoke.games import Game, Ranks
from stoke.keepers import Table

MOST_STATES = 2000


def made_keeper(hold, states):
    game = Game(hold, states, MOST_STATES)
    ranks = Ranks(game)
    rows = {}
    for place, orders in enumerate(game.orders):
        if len(orders) > 0:
            rows[game.met[place]] = orders[longest(ranks.lasts[place])]
    return Table(rows)


# The first one of those that last longest: so it hangs on the hold and the state alone.
def longest(lasts):
    return lasts.index(None) if None in lasts else lasts.index(max(lasts))


def foil_of(hold, states):
    game = Game(hold, states, MOST_STATES)
    ranks = Ranks(game)
    foil = {}
    for place, state in enumerate(game.met):
        if ranks.ranks[place] is not None:
            for number, order in enumerate(game.orders[place]):
                foil[(state, order)] = answer_to(hold, game, ranks, place, number)
    return foil


def answer_to(hold, game, ranks, place, number):
    state = game.met[place]
    order = game.orders[place][number]
    row = game.rows[place][number]
    if row is None:
        return step_out(hold, state, order)[1:]
    behind = worst_of(row, ranks.ranks, ranks.lasts[place][number])
    return step_to(hold, state, order, game.met[behind])[1:]
