"""Sets of rooms as whole numbers: room k is in one whose bit k is set."""


def has_room(bits, room):
    return (bits >> room) % 2 == 1


def with_room(bits, room):
    return bits | (1 << room)


def without_room(bits, room):
    if has_room(bits, room):
        return bits - (1 << room)
    return bits


def how_many(bits):
    return len(members(bits))


def members(bits):
    return [room for room in range(bits.bit_length()) if has_room(bits, room)]


def subsets(bits):
    parts = [0]
    # Each next room outweighs all rooms before it, so the parts with it go behind those without it.
    for room in members(bits):
        parts = parts + [with_room(part, room) for part in parts]
    return parts


def bits_of(rooms):
    bits = 0
    for room in rooms:
        bits = with_room(bits, room)
    return bits
