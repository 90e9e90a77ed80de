"""Parts: rooms that hang together by shares of air, holds of some rooms alone, and ranks told by parts."""

from stoke.bits import bits_of, has_room, how_many
from stoke.errors import Shared
from stoke.games import rank_of
from stoke.holds import Hold
from stoke.ratios import NOUGHT, under
from stoke.stoves import look_at_state, with_stove, wood_of


def parts_of(hold):
    parts = []
    for room in range(hold.many()):
        if not any([room in part for part in parts]):
            parts.append(part_of(hold, room))
    return parts


def part_of(hold, room):
    part = [room]
    done = 0
    while done < len(part):
        for other in range(hold.many()):
            if other not in part and takes_or_gives(hold, part[done], other):
                part.append(other)
        done += 1
    return sorted(part)


def takes_or_gives(hold, one, other):
    return under(NOUGHT, hold.share(one, other)) or under(NOUGHT, hold.share(other, one))


def only_rooms(hold, rooms):
    for room in rooms:
        hold.look_for(room)
    look_for_others(hold, rooms)
    only = Hold(hold.most, hold.cap, hold.load)
    for room in rooms:
        only.put_room(hold.marks(room))
    for place in range(len(rooms)):
        put_alike(only, place, hold, rooms)
    return only


def look_for_others(hold, rooms):
    others = [other for other in range(hold.many()) if other not in rooms]
    for room in rooms:
        if any([takes_or_gives(hold, room, other) for other in others]):
            raise Shared("air goes between these rooms and another one")


def put_alike(only, place, hold, rooms):
    room = rooms[place]
    for of, other in enumerate(rooms):
        if other != room:
            only.put_flow(place, of, hold.share(room, other))
    share, low, high = hold.sky(room)
    only.put_sky(place, share, low, high)
    if hold.stove(room) is not None:
        heat, wood, stay, fails = hold.stove(room)
        only.put_stove(place, heat, wood, stay, fails)


def portion(state, rooms):
    bands, burning, waits, failed, heap = state
    bits = bits_of([place for place, room in enumerate(rooms) if has_room(burning, room)])
    return (chosen(bands, rooms), bits, chosen(waits, rooms), chosen(failed, rooms), heap)


def chosen(row, rooms):
    return tuple([row[room] for room in rooms])


def rank_apart(hold, state):
    look_at_state(hold, state)
    parts = parts_of(hold)
    if len(parts) > 1 and stoves_share(hold):
        raise Shared("the parts share wood, or how many stoves may burn at once")
    ranks = [rank_of(only_rooms(hold, rooms), portion(state, rooms)) for rooms in parts]
    return min([rank for rank in ranks if rank is not None], default=None)


def stoves_share(hold):
    stoves = with_stove(hold)
    return wood_of(hold, stoves) > 0 or how_many(stoves) > hold.most
