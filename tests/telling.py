"""What the tests of holds share: a hold's whole telling, and holds that are filled in."""

from stoke.holds import Hold

# Things of plain kinds that are no whole numbers, for bounds that refuse all but whole numbers.
NO_WHOLE = (True, False, "1", "", "a", None, [], [1], (), (1,), (1, 1))


def told(hold):
    rooms = range(hold.many())
    return {
        "bounds": (hold.most, hold.cap, hold.load),
        "marks": [hold.marks(room) for room in rooms],
        "shares": [[hold.share(into, of) for of in rooms] for into in rooms],
        "skies": [hold.sky(room) for room in rooms],
        "stoves": [hold.stove(room) for room in rooms],
    }


def whole_marks(*numbers):
    return [(number, 1) for number in numbers]


def hold_of(many, **bounds):
    hold = Hold(**bounds)
    for room in range(many):
        hold.put_room(whole_marks(room, room + 10, room + 20))
    return hold


def filled_hold():
    hold = hold_of(3, most=2, cap=12, load=5)
    hold.put_flow(0, 1, (1, 4))
    hold.put_flow(0, 2, (1, 3))
    hold.put_flow(2, 0, (1, 7))
    hold.put_sky(0, (1, 6), (-5, 2), (9, 1))
    hold.put_sky(1, (1, 1), (3, 1), (3, 1))
    hold.put_stove(0, (7, 2), 4, 2, 1)
    hold.put_stove(2, (0, 1))
    return hold
