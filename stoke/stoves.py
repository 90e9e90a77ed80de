"""States of a hold, the orders that they allow, and what a turn makes of stoves and wood."""

from stoke.bits import bits_of, has_room, how_many, members, subsets, with_room
from stoke.errors import NoState


def is_state(hold, state):
    bands, burning, waits, failed, heap = state
    many = hold.many()
    if len(bands) != many or len(waits) != many or len(failed) != many:
        return False
    if burning >> many != 0 or how_many(burning) > hold.most:
        return False
    if not 0 <= heap <= hold.cap:
        return False
    return all([fits_room(hold, state, room) for room in range(many)])


def fits_room(hold, state, room):
    bands, burning, waits, failed, heap = state
    if not 0 <= bands[room] < len(hold.marks(room)) - 1:
        return False
    return fits_stove(hold.stove(room), has_room(burning, room), waits[room], failed[room])


def fits_stove(stove, fired, wait, failed):
    if stove is None:
        return not fired and wait == 0 and failed == 0
    stay, fails = stove[2:]
    if not 0 <= wait <= stay or not 0 <= failed <= fails:
        return False
    return failed == 0 or (not fired and wait == 0)


def look_at_state(hold, state):
    if not is_state(hold, state):
        raise NoState("that is no state of the hold")


def start_state(hold, bands, heap=0):
    none = tuple([0 for room in range(hold.many())])
    state = (tuple(bands), 0, none, none, heap)
    look_at_state(hold, state)
    return state


def with_stove(hold):
    return bits_of([room for room in range(hold.many()) if hold.stove(room) is not None])


def wood_of(hold, bits):
    return sum([hold.stove(room)[1] for room in members(bits & with_stove(hold))])


def must_stay(state):
    return bits_of([room for room, wait in enumerate(state[2]) if wait > 0])


def can_burn(hold, order, heap):
    return how_many(order) <= hold.most and wood_of(hold, order) <= heap


def orders_of(hold, state):
    look_at_state(hold, state)
    held = must_stay(state)
    going_on = state[1] & held
    return [
        order for order in subsets(with_stove(hold))
        if order & held == going_on and can_burn(hold, order, state[4])
    ]


def heeded(hold, state, wish):
    look_at_state(hold, state)
    held = must_stay(state)
    order = state[1] & held
    if wood_of(hold, order) > state[4]:
        return None
    for room in members(wish & with_stove(hold) & ~held):
        larger = with_room(order, room)
        if can_burn(hold, larger, state[4]):
            order = larger
    return order


def may_fail(hold, state, order):
    look_at_state(hold, state)
    return failing(hold, state, order)


def failing(hold, state, order):
    lit = order & ~state[1]
    return bits_of([room for room in members(lit) if state[3][room] < hold.stove(room)[3]])


def behind_turn(hold, state, order, out):
    look_at_state(hold, state)
    return stoves_behind(hold, state, order, out)


def stoves_behind(hold, state, order, out):
    burning = order & ~out
    waits = [wait_behind(hold, state, burning, room) for room in range(hold.many())]
    failed = [failed_behind(state, burning, out, room) for room in range(hold.many())]
    heap = min(hold.cap, state[4] - wood_of(hold, burning) + hold.load)
    return (burning, tuple(waits), tuple(failed), heap)


def wait_behind(hold, state, burning, room):
    if has_room(state[1], room) != has_room(burning, room):
        return hold.stove(room)[2]
    return max(0, state[2][room] - 1)


def failed_behind(state, burning, out, room):
    if has_room(out, room):
        return state[3][room] + 1
    if has_room(burning, room):
        return 0
    return state[3][room]
