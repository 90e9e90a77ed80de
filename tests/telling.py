"""What the tests share: a hold's whole telling; holds, states, keepers and turns made by a seed; and points 11 to 19,
27 to 29, 31, 32 and 36 reckoned once more, as plainly as can be and by Python's own fractions, to hold the program's
answers against."""

from fractions import Fraction
from itertools import product

from stoke.conditions import both_of, burns, colder, one_of, rested, stocked, unlike
from stoke.errors import StokeError, TooMany
from stoke.holds import Hold
from stoke.keepers import Below, Clock, Either, Keeper, Pair, Ruled, Sills, Table, Together

# Things of plain kinds that are no whole numbers, for bounds that refuse all but whole numbers.
NO_WHOLE = (True, False, "1", "", "a", None, [], [1], (), (1,), (1, 1))


def told(hold):
    rooms = range(hold.many())
    return {
        "bounds": (hold.most, hold.cap, hold.load),
        "marks": [hold.marks(room) for room in rooms],
        "shares": [[hold.share(into, of) for of in rooms] for into in rooms],
        "skies": [hold.sky(room) for room in rooms],
        "stoves": [hold.stove(room) for room in rooms],
    }


def whole_marks(*numbers):
    return [(number, 1) for number in numbers]


def hold_of(many, **bounds):
    hold = Hold(**bounds)
    for room in range(many):
        hold.put_room(whole_marks(room, room + 10, room + 20))
    return hold


def filled_hold():
    hold = hold_of(3, most=2, cap=12, load=5)
    hold.put_flow(0, 1, (1, 4))
    hold.put_flow(0, 2, (1, 3))
    hold.put_flow(2, 0, (1, 7))
    hold.put_sky(0, (1, 6), (-5, 2), (9, 1))
    hold.put_sky(1, (1, 1), (3, 1), (3, 1))
    hold.put_stove(0, (7, 2), 4, 2, 1)
    hold.put_stove(2, (0, 1))
    return hold


# A room of six bands that loses, in a turn without its stove, up to ten and more; the stove holds it where it is.
def fading_hold(cap=0, load=0, wood=0, **stove):
    hold = Hold(cap=cap, load=load)
    hold.put_room(whole_marks(0, 10, 20, 30, 40, 50, 60))
    hold.put_sky(0, (1, 6), (-60, 1), (-60, 1))
    hold.put_stove(0, (20, 1), wood=wood, **stove)
    return hold


# Rooms of so many bands, each of which may come from each of them to each.
def wide_rooms(bands, **bounds):
    hold = Hold(**bounds)
    for many in bands:
        room = hold.put_room(whole_marks(*range(many + 1)))
        hold.put_sky(room, (1, 1), (0, 1), (many, 1))
    return hold


def refused(test, kind, deed):
    with test.assertRaises(kind) as caught:
        deed()
    test.assertIs(type(caught.exception), kind)
    test.assertIsInstance(caught.exception, StokeError)


def pair(exact):
    return (exact.numerator, exact.denominator)


def exact(one):
    return Fraction(*one)


def some_exact(source, low, high, figures=2):
    bottom = source.randint(1, 10 ** figures - 1)
    return Fraction(source.randint(low * bottom, high * bottom), bottom)


def some_marks(source, bands, figures, ends):
    marks = {Fraction(end) for end in ends}
    while len(marks) < bands + 1:
        marks.add(some_exact(source, -11, 11, figures))
    return [pair(mark) for mark in sorted(marks)]


def some_air(source, hold, room, figures, weather):
    rest = Fraction(1)
    for other in range(hold.many()):
        if other != room and source.random() < 0.6:
            share = rest * some_exact(source, 0, 1, figures) / 2
            hold.put_flow(room, other, pair(share))
            rest -= share
    if source.random() < 0.7:
        low, high = sorted([some_exact(source, *weather, figures), some_exact(source, *weather, figures)])
        share = rest if source.random() < 0.1 else rest * some_exact(source, 0, 1, figures)
        hold.put_sky(room, pair(share), pair(low), pair(high))


# In a mild hold most orders are safe: all rooms have the same bounds, and the weather is hardly beyond them. Where each
# of the last four is small, not many states are met.
def some_hold(
    source, most_rooms=4, most_bands=6, figures=1, mild=False, low=-13,
    most_cap=12, most_wood=4, most_stay=3, most_fails=3,
):
    hold = Hold(most=source.choice((0, 1, 2, 3, 4, 4)), cap=source.randint(0, most_cap), load=source.randint(0, 5))
    together = 1
    for _ in range(source.randint(1, most_rooms)):
        bands = min(source.randint(1, most_bands), 400 // together)
        together *= bands
        hold.put_room(some_marks(source, bands, max(figures, 2), (-12, 12) if mild else ()))
    for room in range(hold.many()):
        some_air(source, hold, room, figures, (low, 12) if mild else (-20, 20))
        if source.random() < 0.7:
            heat = pair(some_exact(source, 0, 3 if mild else 9, figures))
            wood, stay, fails = [source.randint(0, most) for most in (most_wood, most_stay, most_fails)]
            hold.put_stove(room, heat, wood, stay, fails)
    return hold


def small_hold(source, most_rooms=4, most_bands=3):
    low = source.choice((-13, -20, -30))
    return some_hold(
        source, most_rooms, most_bands, mild=True, low=low, most_cap=3, most_wood=2, most_stay=1, most_fails=1,
    )


# Rooms that hang together in the told groups and no more, numbered as they come, in a hold of bounds that tell nothing
# but what is handed in.
def parted_hold(source, groups, most_bands=3, most_wood=0, **bounds):
    hold = Hold(**bounds)
    for _ in range(sum(len(group) for group in groups)):
        hold.put_room(some_marks(source, source.randint(1, most_bands), 2, (-12, 12)))
    for group in groups:
        for before, room in zip(group, group[1:]):
            into, of = source.sample((before, room), 2)
            hold.put_flow(into, of, pair(Fraction(1, source.randint(4, 9))))
        for room in group:
            rest = exact(hold.share(room, room))
            low, high = sorted([some_exact(source, -22, 8), some_exact(source, -22, 8)])
            hold.put_sky(room, pair(rest * some_exact(source, 0, 1, 1)), pair(low), pair(high))
            if source.random() < 0.8:
                heat = pair(some_exact(source, 0, 6, 1))
                hold.put_stove(room, heat, source.randint(0, most_wood), source.randint(0, 1), source.randint(0, 1))
    return hold


def some_groups(source, rooms):
    drawn = list(range(rooms))
    source.shuffle(drawn)
    cuts = sorted(source.sample(range(1, rooms), source.randrange(rooms)))
    return [drawn[start:end] for start, end in zip([0] + cuts, cuts + [rooms])]


def some_state(source, hold):
    rooms = range(hold.many())
    stoves = [room for room in rooms if hold.stove(room) is not None]
    burning = source.sample(stoves, source.randint(0, min(hold.most, len(stoves))))
    waits = [0] * hold.many()
    failed = [0] * hold.many()
    for room in stoves:
        if room not in burning and source.random() < 0.4:
            failed[room] = source.randint(0, hold.stove(room)[3])
        if failed[room] == 0 and source.random() < 0.6:
            waits[room] = source.randint(0, hold.stove(room)[2])
    bands = tuple(source.randrange(len(hold.marks(room)) - 1) for room in rooms)
    return (bands, plain_bits(burning), tuple(waits), tuple(failed), source.randint(0, hold.cap))


def some_condition(source, hold, depth=2):
    room = source.randrange(hold.many())
    if depth == 0:
        choices = (colder(room, source.randint(0, 5)), burns(room), rested(room), stocked(source.randint(0, 9)))
        return source.choice(choices)
    one = some_condition(source, hold, depth - 1)
    other = some_condition(source, hold, depth - 1)
    return source.choice((both_of(one, other), one_of(one, other), unlike(one)))


def simple_keeper(source, hold):
    rooms = range(hold.many())
    bits = range(2 ** hold.many())
    kind = source.randrange(5)
    if kind == 0:
        return Clock([source.choice(bits) for _ in range(source.randint(1, 4))])
    if kind == 1:
        return Ruled([(source.choice(rooms), some_condition(source, hold)) for _ in range(source.randint(0, 5))])
    if kind == 2:
        return Table({some_state(source, hold): source.choice(bits) for _ in range(20)})
    if kind == 3:
        sills = [sorted((source.randint(-1, 4), source.randint(0, 5))) for _ in rooms]
        return Sills({room: tuple(sills[room]) for room in rooms if source.random() < 0.8})
    return Keeper()


def some_keeper(source, hold, depth=2):
    if depth == 0 or source.random() < 0.2:
        return simple_keeper(source, hold)
    one = some_keeper(source, hold, depth - 1)
    other = some_keeper(source, hold, depth - 1)
    room, band = source.randrange(hold.many()), source.randint(-1, 6)
    rows = {some_state(source, hold): source.randrange(16) for _ in range(20)}
    deeds = (
        lambda: Pair(one, other), lambda: Either(one, other), lambda: Together(one, other),
        lambda: Below(room, band, one, other), lambda: Table(rows, one),
    )
    try:
        return source.choice(deeds)()
    except TooMany:
        return one


# What air, weather, gauges and failing stoves may do in a turn: out, a list of warmths, and a list of bands, or None
# where some room is out of its bounds.
def some_turn(source, hold, state, order):
    out = source.choice(plain_parts(plain_may_fail(hold, state, order)))
    warmths = [some_warmth(source, hold, state, room, room in plain_rooms(order & ~out)) for room in range(hold.many())]
    rows = [plain_touched(hold, room, warmth, warmth) for room, warmth in enumerate(warmths)]
    bands = [source.choice(row) for row in rows] if all(rows) else None
    return (out, [pair(warmth) for warmth in warmths], bands)


def some_warmth(source, hold, state, room, fired):
    ends = [hold.marks(of)[band:band + 2] for of, band in enumerate(state[0])] + [hold.sky(room)[1:]]
    drawn = []
    for low, high in ends:
        part = source.choice((Fraction(0), Fraction(1), Fraction(1, 2), some_exact(source, 0, 1)))
        drawn.append(exact(low) + (exact(high) - exact(low)) * part)
    return plain_warmth(hold, room, drawn[:-1], drawn[-1], fired)


def plain_bits(rooms):
    return sum(2 ** room for room in set(rooms))


def plain_rooms(bits):
    return [room for room in range(64) if bits // 2 ** room % 2 == 1]


def plain_parts(bits):
    return [part for part in range(bits + 1) if set(plain_rooms(part)) <= set(plain_rooms(bits))]


def plain_is_state(hold, state):
    bands, burning, waits, failed, heap = state
    if not len(bands) == len(waits) == len(failed) == hold.many() or not 0 <= heap <= hold.cap:
        return False
    if len(plain_rooms(burning)) > hold.most or any(room >= hold.many() for room in plain_rooms(burning)):
        return False
    for room in range(hold.many()):
        burns = room in plain_rooms(burning)
        stay, fails = (hold.stove(room) or (0, 0, 0, 0))[2:]
        if burns and hold.stove(room) is None:
            return False
        if bands[room] not in range(len(hold.marks(room)) - 1):
            return False
        if waits[room] not in range(stay + 1) or failed[room] not in range(fails + 1):
            return False
        if failed[room] > 0 and (burns or waits[room] > 0):
            return False
    return True


def plain_wood(hold, rooms):
    return sum(hold.stove(room)[1] for room in rooms if hold.stove(room) is not None)


def plain_orders(hold, state):
    _, burning, waits, _, heap = state
    found = []
    for order in range(2 ** hold.many()):
        rooms = plain_rooms(order)
        kept = all(waits[room] == 0 or (room in rooms) == (room in plain_rooms(burning)) for room in range(hold.many()))
        stoves = all(hold.stove(room) is not None for room in rooms)
        if kept and stoves and len(rooms) <= hold.most and plain_wood(hold, rooms) <= heap:
            found.append(order)
    return found


def plain_heeded(hold, state, wish):
    _, burning, waits, _, heap = state
    order = [room for room in plain_rooms(burning) if waits[room] > 0]
    if plain_wood(hold, order) > heap:
        return None
    for room in range(hold.many()):
        if room in plain_rooms(wish) and waits[room] == 0 and hold.stove(room) is not None:
            if len(order) < hold.most and plain_wood(hold, order + [room]) <= heap:
                order.append(room)
    return plain_bits(order)


def plain_may_fail(hold, state, order):
    lit = [room for room in plain_rooms(order) if room not in plain_rooms(state[1])]
    return plain_bits([room for room in lit if state[3][room] < hold.stove(room)[3]])


def plain_behind(hold, state, order, out):
    before = plain_rooms(state[1])
    burning = [room for room in plain_rooms(order) if room not in plain_rooms(out)]
    waits = []
    failed = []
    for room in range(hold.many()):
        changed = (room in before) != (room in burning)
        waits.append(hold.stove(room)[2] if changed else max(state[2][room] - 1, 0))
        if room in plain_rooms(out):
            failed.append(state[3][room] + 1)
        else:
            failed.append(0 if room in burning else state[3][room])
    heap = min(state[4] - plain_wood(hold, burning) + hold.load, hold.cap)
    return (plain_bits(burning), tuple(waits), tuple(failed), heap)


def plain_warmth(hold, room, airs, weather, fired):
    warmth = exact(hold.sky(room)[0]) * weather
    for of in range(hold.many()):
        warmth += exact(hold.share(room, of)) * airs[of]
    return warmth + exact(hold.stove(room)[0]) if fired else warmth


# The least and the greatest warmth of all corners: each air, and the weather, at either of its ends.
def plain_span(hold, room, bands, fired):
    ends = [(exact(hold.marks(of)[band]), exact(hold.marks(of)[band + 1])) for of, band in enumerate(bands)]
    ends.append((exact(hold.sky(room)[1]), exact(hold.sky(room)[2])))
    warmths = [plain_warmth(hold, room, corner[:-1], corner[-1], fired) for corner in product(*ends)]
    return (min(warmths), max(warmths))


def plain_touched(hold, room, least, greatest):
    marks = [exact(mark) for mark in hold.marks(room)]
    return [band for band in range(len(marks) - 1) if max(least, marks[band]) <= min(greatest, marks[band + 1])]


def plain_is_within(hold, room, least, greatest):
    return exact(hold.marks(room)[0]) <= least and greatest <= exact(hold.marks(room)[-1])


# What is known already of one hold may be handed in, and is added to.
def plain_spans(hold, state, burning, known=None):
    known = {} if known is None else known
    keys = [(room, state[0], room in plain_rooms(burning)) for room in range(hold.many())]
    for key in keys:
        if key not in known:
            known[key] = plain_span(hold, *key)
    return [known[key] for key in keys]


def plain_outcomes(hold, state, order, known=None):
    found = set()
    for out in plain_parts(plain_may_fail(hold, state, order)):
        stoves = plain_behind(hold, state, order, out)
        spans = plain_spans(hold, state, stoves[0], known)
        if not all(plain_is_within(hold, room, *span) for room, span in enumerate(spans)):
            return None
        rows = [plain_touched(hold, room, *span) for room, span in enumerate(spans)]
        found.update((bands,) + stoves for bands in product(*rows))
    return found


# A dict from each post of the course to its order and the posts behind it; None where there are more than a limit.
def plain_course(hold, keeper, posts, limit):
    course = {}
    known = {}
    left = list(posts)
    while left:
        post = left.pop()
        if post not in course:
            state, mind = post
            order = plain_heeded(hold, state, keeper.wish(mind, state))
            states = None if order is None else plain_outcomes(hold, state, order, known)
            behind = None if states is None else {(each, keeper.after(mind, state)) for each in states}
            course[post] = (order, behind)
            left.extend(behind or ())
            if len(course) > limit:
                return None
    return course


# Point 29 by its own words, turn for turn: a post is ill in so many turns where none sooner is known.
def plain_fates(course):
    fates = {post: None for post in course}
    for turns in range(len(course) + 2):
        for post, (order, behind) in course.items():
            if fates[post] is None and turns == plain_fate(order, behind, fates, turns):
                fates[post] = turns
    return fates


def plain_fate(order, behind, fates, turns):
    if order is None:
        return 0
    if behind is None:
        return 1
    return turns if any(fates[post] == turns - 1 for post in behind) else None


# A dict from each state met to a dict from the orders that it allows to what may come of each; None where there are
# more states than a limit.
def plain_game(hold, states, limit):
    game = {}
    known = {}
    left = list(states)
    while left:
        state = left.pop()
        if state not in game:
            game[state] = {order: plain_outcomes(hold, state, order, known) for order in plain_orders(hold, state)}
            for behind in game[state].values():
                left.extend(behind or ())
            if len(game) > limit:
                return None
    return game


# How many turns an order lasts, as far as ranks are known: None where all states that may come of it have none.
def plain_lasting(behind, ranks):
    if behind is None:
        return 0
    return min((ranks[state] for state in behind if ranks[state] is not None), default=None)


# Point 32 by its own words, turn for turn, until no state is ill in just so many turns.
def plain_ranks(game):
    ranks = {state: 0 if not orders else None for state, orders in game.items()}
    turns = 1
    while True:
        ill = []
        for state, orders in game.items():
            lasting = [plain_lasting(behind, ranks) for behind in orders.values()]
            if ranks[state] is None and None not in lasting:
                ill.append(state)
        if not ill:
            return ranks
        for state in ill:
            ranks[state] = turns
        turns += 1


# The greatest rate of all rounds, by Karp's theorem: rows tell which posts stand behind each, woods what each takes.
def plain_rate(rows, woods):
    many = len(rows)
    most = [[0] * many]
    for _ in range(many):
        most.append([max(woods[behind] + most[-1][behind] for behind in row) for row in rows])
    return max(
        min(Fraction(most[many][post] - most[turns][post], many - turns) for turns in range(many))
        for post in range(many)
    )
