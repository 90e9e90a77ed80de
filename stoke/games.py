"""Games: all states that any keeper can come to, and in how few turns the weather makes each of them ill."""

from stoke.errors import TooMany
from stoke.stoves import look_at_state, orders_of
from stoke.turns import Reach


def states_met(hold, states, limit=2000):
    return Game(hold, states, limit).met


def ranks_of(hold, states, limit=2000):
    game = Game(hold, states, limit)
    return dict(zip(game.met, Ranks(game).ranks))


def rank_of(hold, state):
    return ranks_of(hold, [state])[state]


# For each met state, in the same order: the orders that it allows, rising, and for each of these the places in met of
# the states that may come of it, or None where it is unsafe.
class Game:
    def __init__(self, hold, states, limit):
        for state in states:
            look_at_state(hold, state)
        self.met = []
        self.orders = []
        self.rows = []
        self.places = {}
        self.limit = limit
        for state in states:
            self.meet(state)
        self.go_on(hold)

    def go_on(self, hold):
        reach = Reach(hold)
        while len(self.rows) < len(self.met):
            state = self.met[len(self.rows)]
            orders = orders_of(hold, state)
            self.orders.append(orders)
            self.rows.append([self.meet_all(reach.states_behind(state, order)) for order in orders])

    def meet_all(self, states):
        return None if states is None else [self.meet(state) for state in states]

    def meet(self, state):
        if state not in self.places:
            if len(self.met) >= self.limit:
                raise TooMany("more states are met than the limit allows")
            self.places[state] = len(self.met)
            self.met.append(state)
        return self.places[state]


def choices_ahead(rows):
    ahead = [[] for row in rows]
    for place, choices in enumerate(rows):
        for number, row in enumerate(choices):
            if row is not None:
                for behind in row:
                    ahead[behind].append((place, number))
    return ahead


# For each met state its rank, and for each of its orders how many turns it lasts, None where it lasts for ever.
# In the queue no rank is less than one before it. So an order ends by the least rank of the states that may come of it,
# and of a state's orders those that last longest end last.
class Ranks:
    def __init__(self, game):
        self.lasts = [[None for row in choices] for choices in game.rows]
        self.going = [len(choices) for choices in game.rows]
        self.ranks = [0 if many == 0 else None for many in self.going]
        self.queue = [place for place, rank in enumerate(self.ranks) if rank == 0]
        for place, choices in enumerate(game.rows):
            for number, row in enumerate(choices):
                if row is None:
                    self.end(place, number, 0)
        self.go_back(choices_ahead(game.rows))

    def go_back(self, ahead):
        done = 0
        while done < len(self.queue):
            here = self.queue[done]
            for place, number in ahead[here]:
                if self.lasts[place][number] is None:
                    self.end(place, number, self.ranks[here])
            done += 1

    def end(self, place, number, lasting):
        self.lasts[place][number] = lasting
        self.going[place] -= 1
        if self.going[place] == 0:
            self.ranks[place] = lasting + 1
            self.queue.append(place)
