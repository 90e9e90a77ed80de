import inspect
import random
import unittest
from fractions import Fraction

from stoke.bits import subsets
from stoke.errors import Ended, NoBand, NoFailing, NoOrder, NoState, NotOut, NoTurn, StokeError
from stoke.holds import Hold
from stoke.stoves import behind_turn, may_fail, orders_of, start_state
from stoke.turns import outcomes
from stoke.walks import Walk
from tests.telling import pair, plain_is_within, plain_spans, plain_touched, some_hold, some_state, whole_marks

LITTLE = Fraction(1, 10 ** 40)


# Room 0 mixes with the weather (0 to 8) and has a stove, room 1 has one that may fail, room 2 keeps its air.
# In the bands (0, 0, 0) the spans are: 0 to 9, or 4 to 13 with its stove; 0 to 10, or 9 to 19; 0 to 10.
def three_rooms():
    hold = Hold(most=2, cap=9, load=1)
    for _ in range(3):
        hold.put_room(whole_marks(0, 10, 20))
    hold.put_sky(0, (1, 2), (0, 1), (8, 1))
    hold.put_stove(0, (4, 1), wood=2, stay=1)
    hold.put_stove(1, (9, 1), wood=3, stay=2, fails=1)
    return hold


def walk_of(hold, heap=9):
    return Walk(hold, start_state(hold, (0, 0, 0), heap))


def standing(walk):
    return (walk.state(), walk.turns(), walk.is_left())


class WalkTest(unittest.TestCase):
    def refused(self, kind, walk, deed, values=None):
        ahead = standing(walk)
        with self.assertRaises(kind) as caught:
            deed()
        self.assertIs(type(caught.exception), kind)
        self.assertIsInstance(caught.exception, StokeError)
        if values is not None:
            self.assertEqual((caught.exception.room, caught.exception.turn), values)
        self.assertEqual(standing(walk), ahead)


class BeginTest(WalkTest):
    def test_begin(self):
        hold = three_rooms()
        state = ((1, 0, 1), 2, (1, 2, 0), (0, 0, 0), 4)
        self.assertEqual(standing(Walk(hold, state)), (state, 0, False))

    def test_no_state(self):
        with self.assertRaises(NoState):
            Walk(three_rooms(), ((0, 0, 2), 0, (0, 0, 0), (0, 0, 0), 0))


class GoTest(WalkTest):
    def test_along_turns(self):
        walk = walk_of(three_rooms())
        walk.go(3, 2, (1, 0, 0))
        self.assertEqual(standing(walk), (((1, 0, 0), 1, (1, 0, 0), (0, 1, 0), 8), 1, False))
        walk.go(3, 0, [1, 1, 0])
        self.assertEqual(standing(walk), (((1, 1, 0), 3, (0, 2, 0), (0, 0, 0), 4), 2, False))
        walk.go(2, 0, (0, 1, 0))
        self.assertEqual(standing(walk), (((0, 1, 0), 2, (1, 1, 0), (0, 0, 0), 2), 3, False))

    def test_with_warmths(self):
        walk = walk_of(three_rooms())
        walk.go(0, 0, [0, 1, 0], [(9, 1), (10, 1), (7, 3)])
        self.assertEqual(walk.state()[0], (0, 1, 0))
        walk.go(0, 0, (0, 0, 0), warmths=[(0, 1), (10, 1), (0, 1)])
        self.assertEqual(walk.state()[0], (0, 0, 0))

    def test_comes_back_with_nothing_to_go_by(self):
        walk = walk_of(three_rooms())
        self.assertIsNone(walk.go(0, 0, (0, 0, 0)))
        self.assertEqual(walk.turns(), 1)

    def test_no_order(self):
        walk = walk_of(three_rooms(), 4)
        for order in (3, 4, 5, 7, 8, 2 ** 60, 2 ** 60 + 1):
            self.refused(NoOrder, walk, lambda: walk.go(order, 0, (0, 0, 0)))
        walk.go(2, 0, (0, 1, 0))
        for order in (0, 1, 3, 2):
            # It must go on burning, and there is too little wood.
            self.refused(NoOrder, walk, lambda: walk.go(order, 0, (0, 1, 0)))

    def test_more_than_most(self):
        hold = three_rooms()
        hold.put_stove(2, (1, 1))
        walk = walk_of(hold)
        self.refused(NoOrder, walk, lambda: walk.go(7, 0, (0, 0, 0)))
        walk.go(6, 0, (0, 1, 0))

    def test_no_failing(self):
        walk = walk_of(three_rooms())
        for order, out in ((3, 1), (3, 3), (1, 1), (1, 2), (0, 2), (3, 4), (3, 6), (3, 2 ** 60), (3, 2 ** 60 + 2)):
            self.refused(NoFailing, walk, lambda: walk.go(order, out, (0, 0, 0)))
        walk.go(2, 2, (0, 0, 0))
        self.refused(NoFailing, walk, lambda: walk.go(2, 2, (0, 0, 0)))
        walk.go(2, 0, (0, 1, 0))
        self.refused(NoFailing, walk, lambda: walk.go(2, 2, (0, 1, 0)))

    def test_no_band(self):
        walk = walk_of(three_rooms())
        for bands, room in (
            ((1, 0, 0), 0), ((0, 0, 2), 2), ((0, -1, 0), 1), ((0, 2, 0), 1), ((0, 10 ** 59, 0), 1), ((-1, 0, 0), 0),
            ((0, 0, -10 ** 59), 2), ((1, 2, 2), 0), ((0, 2, 2), 1),
        ):
            with self.subTest(bands=bands):
                self.refused(NoBand, walk, lambda: walk.go(0, 0, bands), (room, 0))
        walk.go(0, 0, (0, 1, 1))
        self.refused(NoBand, walk, lambda: walk.go(0, 0, (1, 0, 0)), (0, 1))
        self.refused(NoBand, walk, lambda: walk.go(2, 0, (0, 0, 1)), (1, 1))

    def test_the_stove_counts_where_it_is_lit(self):
        hold = three_rooms()
        hold.put_stove(1, (11, 1), fails=1)
        walk = walk_of(hold)
        self.refused(NoBand, walk, lambda: walk.go(2, 0, (0, 0, 0)), (1, 0))
        walk.go(2, 2, (0, 0, 0))
        walk.go(2, 0, (0, 1, 0))

    def test_no_turn(self):
        walk = walk_of(three_rooms())
        inner = [(3, 1), (3, 1), (3, 1)]
        for room, low, high in ((0, 0, 9), (1, 0, 10), (2, 0, 10)):
            for warmth in (low - LITTLE, high + LITTLE, Fraction(-10 ** 400), Fraction(10 ** 400)):
                warmths = list(inner)
                warmths[room] = pair(warmth)
                with self.subTest(room=room, warmth=warmth):
                    self.refused(NoTurn, walk, lambda: walk.go(0, 0, (0, 0, 0), warmths), (room, 0))
        walk.go(0, 0, (0, 0, 0), [(0, 1), (10, 1), (0, 1)])
        self.refused(NoTurn, walk, lambda: walk.go(1, 0, (0, 0, 0), [(3, 1), (3, 1), (3, 1)]), (0, 1))
        walk.go(1, 0, (0, 0, 0), [(4, 1), (3, 1), (3, 1)])

    def test_band_without_the_warmth(self):
        walk = walk_of(three_rooms())
        # Band 1 is touched by the span of 0 to 10, but has only the 10 of it.
        self.refused(NoBand, walk, lambda: walk.go(0, 0, (0, 1, 0), [(3, 1), pair(10 - LITTLE), (3, 1)]), (1, 0))
        self.refused(NoBand, walk, lambda: walk.go(1, 0, (0, 0, 0), [pair(10 + LITTLE), (3, 1), (3, 1)]), (0, 0))
        walk.go(1, 0, (1, 1, 0), [pair(10 + LITTLE), (10, 1), (3, 1)])
        self.assertEqual(walk.state()[0], (1, 1, 0))

    def test_room_by_room(self):
        walk = walk_of(three_rooms())
        far = (99, 1)
        self.refused(NoBand, walk, lambda: walk.go(0, 0, (1, 0, 0), [(3, 1), far, far]), (0, 0))
        self.refused(NoTurn, walk, lambda: walk.go(0, 0, (1, 0, 0), [far, (3, 1), far]), (0, 0))
        self.refused(NoTurn, walk, lambda: walk.go(0, 0, (0, 1, 1), [(3, 1), far, (3, 1)]), (1, 0))
        self.refused(NoBand, walk, lambda: walk.go(0, 0, (0, 1, 1), [(3, 1), (3, 1), far]), (1, 0))
        self.refused(NoTurn, walk, lambda: walk.go(0, 0, (0, 0, 2), [(3, 1), (3, 1), far]), (2, 0))

    def test_order_of_refusals(self):
        walk = walk_of(three_rooms())
        far = [(99, 1)] * 3
        self.refused(NoOrder, walk, lambda: walk.go(4, 4, (9, 9, 9), far))
        self.refused(NoFailing, walk, lambda: walk.go(1, 1, (9, 9, 9), far))
        self.refused(NoTurn, walk, lambda: walk.go(1, 0, (9, 9, 9), far), (0, 0))
        self.refused(NoBand, walk, lambda: walk.go(1, 0, (9, 9, 9)), (0, 0))

    def test_turn_of_an_unsafe_order(self):
        hold = three_rooms()
        hold.put_sky(2, (1, 2), (-1, 1), (0, 1))
        self.assertIsNone(outcomes(hold, start_state(hold, (0, 0, 0)), 0))
        walk = walk_of(hold)
        walk.go(0, 0, (0, 0, 0))
        walk.go(0, 0, (0, 0, 0), [(1, 1), (1, 1), (0, 1)])
        self.assertEqual(walk.turns(), 2)
        # Its span is from -1/2 to 5: what is below its bound is in no band.
        self.refused(NoBand, walk, lambda: walk.go(0, 0, (0, 0, 0), [(1, 1), (1, 1), (-1, 2)]), (2, 2))
        self.refused(NoTurn, walk, lambda: walk.go(0, 0, (0, 0, 0), [(1, 1), (1, 1), (-2, 3)]), (2, 2))

    def test_span_wholly_beyond(self):
        hold = three_rooms()
        hold.put_sky(2, (1, 1), (-3, 1), (-2, 1))
        walk = walk_of(hold)
        self.refused(NoBand, walk, lambda: walk.go(0, 0, (0, 0, 0)), (2, 0))
        walk.leave(0, 0, [(1, 1), (1, 1), (-2, 1)])


class LeaveTest(WalkTest):
    def open_hold(self):
        hold = three_rooms()
        hold.put_sky(2, (1, 2), (-4, 1), (20, 1))
        hold.put_stove(2, (6, 1), fails=1)
        return hold

    def test_left(self):
        for warmth in (-LITTLE, Fraction(-2)):
            walk = walk_of(self.open_hold())
            walk.go(0, 0, (0, 0, 0))
            state = walk.state()
            self.assertIsNone(walk.leave(1, 0, [(4, 1), (3, 1), pair(warmth)]))
            self.assertEqual(standing(walk), (state, 2, True))

    def test_left_above(self):
        walk = walk_of(self.open_hold())
        self.refused(NotOut, walk, lambda: walk.leave(4, 0, [(4, 1), (3, 1), (20, 1)]))
        walk.leave(4, 0, [(4, 1), (3, 1), pair(20 + LITTLE)])
        self.assertTrue(walk.is_left())

    def test_not_out(self):
        walk = walk_of(self.open_hold())
        self.refused(NotOut, walk, lambda: walk.leave(0, 0, [(4, 1), (3, 1), (0, 1)]))
        self.refused(NotOut, walk, lambda: walk.leave(0, 0, [(0, 1), (10, 1), (15, 1)]))
        walk.leave(0, 0, [(4, 1), (3, 1), (-1, 1)])

    def test_refused_as_a_turn(self):
        walk = walk_of(self.open_hold())
        inner = [(4, 1), (3, 1), (3, 1)]
        self.refused(NoOrder, walk, lambda: walk.leave(7, 7, inner))
        self.refused(NoOrder, walk, lambda: walk.leave(2 ** 60, 0, [(4, 1), (3, 1), (-1, 1)]))
        self.refused(NoFailing, walk, lambda: walk.leave(1, 1, inner))
        self.refused(NoFailing, walk, lambda: walk.leave(4, 2, [(4, 1), (3, 1), (-99, 1)]))
        self.refused(NoTurn, walk, lambda: walk.leave(0, 0, [(4, 1), (11, 1), (-99, 1)]), (1, 0))
        self.refused(NoTurn, walk, lambda: walk.leave(0, 0, [(4, 1), (3, 1), (-99, 1)]), (2, 0))
        self.refused(NoTurn, walk, lambda: walk.leave(0, 0, [(-1, 1), (3, 1), (-1, 1)]), (0, 0))
        # With the stove lit its span is from 4 to 21; where it fails, from -2 to 15.
        self.refused(NoTurn, walk, lambda: walk.leave(4, 0, [(4, 1), (3, 1), (-1, 1)]), (2, 0))
        walk.go(0, 0, (0, 0, 0))
        self.refused(NoTurn, walk, lambda: walk.leave(0, 0, [(4, 1), (3, 1), (-99, 1)]), (2, 1))
        walk.leave(4, 4, [(4, 1), (3, 1), (-1, 1)])
        self.assertEqual(walk.turns(), 2)

    def test_behind_a_walk_that_was_left(self):
        walk = walk_of(self.open_hold())
        walk.leave(0, 0, [(4, 1), (3, 1), (-1, 1)])
        self.refused(Ended, walk, lambda: walk.go(0, 0, (0, 0, 0)))
        self.refused(Ended, walk, lambda: walk.go(8, 8, (9, 9, 9), [(99, 1)] * 3))
        self.refused(Ended, walk, lambda: walk.leave(0, 0, [(4, 1), (3, 1), (-1, 1)]))
        self.refused(Ended, walk, lambda: walk.leave(8, 8, [(99, 1)] * 3))
        self.refused(Ended, walk, lambda: walk.leave(0, 0, [(4, 1), (3, 1), (3, 1)]))
        self.assertEqual(walk.turns(), 1)


class ManyTurnsTest(WalkTest):
    def part_of(self, source, least, greatest):
        part = source.choice((Fraction(0), Fraction(1), Fraction(source.randint(0, 10 ** 20), 10 ** 20)))
        return least + (greatest - least) * part

    def choose(self, source, walk, hold):
        state = walk.state()
        order = source.choice(orders_of(hold, state))
        out = source.choice(subsets(may_fail(hold, state, order)))
        burning = behind_turn(hold, state, order, out)[0]
        return (order, out, [self.part_of(source, *span) for span in plain_spans(hold, state, burning)])

    def one_turn(self, source, walk, hold):
        order, out, warmths = self.choose(source, walk, hold)
        rows = [plain_touched(hold, room, warmth, warmth) for room, warmth in enumerate(warmths)]
        told = [pair(warmth) for warmth in warmths]
        if all(plain_is_within(hold, room, warmth, warmth) for room, warmth in enumerate(warmths)):
            self.refused(NotOut, walk, lambda: walk.leave(order, out, told))
            may_come = outcomes(hold, walk.state(), order)
            behind = behind_turn(hold, walk.state(), order, out)
            bands = [source.choice(row) for row in rows]
            walk.go(order, out, bands, source.choice((told, None)))
            self.assertEqual(walk.state(), (tuple(bands),) + behind)
            self.assertTrue(may_come is None or walk.state() in may_come)
        else:
            room = [room for room, row in enumerate(rows) if row == []][0]
            bands = [row[0] if row else 0 for row in rows]
            self.refused(NoBand, walk, lambda: walk.go(order, out, bands, told), (room, walk.turns()))
            walk.leave(order, out, told)

    def test_some_walks(self):
        source = random.Random(1)
        turns = 0
        for _ in range(40):
            hold = some_hold(source, mild=True)
            walk = Walk(hold, some_state(source, hold))
            for turn in range(40):
                if walk.is_left() or orders_of(hold, walk.state()) == []:
                    break
                self.one_turn(source, walk, hold)
                self.assertEqual(walk.turns(), turn + 1)
            turns += walk.turns()
        self.assertGreater(turns, 300)

    def test_all_that_may_come_is_gone_and_nothing_else(self):
        source = random.Random(2)
        for _ in range(15):
            hold = some_hold(source, mild=True, most_rooms=2, most_bands=3)
            state = some_state(source, hold)
            for order in orders_of(hold, state):
                gone = self.all_turns(hold, state, order)
                wanted = outcomes(hold, state, order)
                if wanted is not None:
                    self.assertEqual(gone, set(wanted))

    def all_turns(self, hold, state, order):
        gone = set()
        for out in range(2 ** hold.many()):
            for bands in [(one, other)[:hold.many()] for one in range(-1, 5) for other in range(-1, 5)]:
                walk = Walk(hold, state)
                try:
                    walk.go(order, out, bands)
                except (NoFailing, NoBand):
                    continue
                gone.add(walk.state())
        return gone

    def test_a_long_walk(self):
        walk = walk_of(three_rooms())
        for turn in range(1500):
            walk.go(0, 0, (0, turn % 2, 0), [(0, 1), (10, 1), (turn % 10, 1)])
        self.assertEqual(standing(walk), (((0, 1, 0), 0, (0, 0, 0), (0, 0, 0), 9), 1500, False))
        self.refused(NoBand, walk, lambda: walk.go(0, 0, (0, 0, 2)), (2, 1500))


class OwnTest(WalkTest):
    def test_hold_that_is_changed_behind(self):
        hold = three_rooms()
        walk = walk_of(hold)
        hold.put_room(whole_marks(0, 1))
        hold.put_sky(0, (1, 1), (-99, 1), (-98, 1))
        hold.put_flow(2, 3, (1, 1))
        hold.put_stove(0, (9, 1), wood=9, stay=3, fails=3)
        hold.put_stove(2, (9, 1))
        walk.go(3, 2, (1, 0, 0), [(13, 1), (0, 1), (9, 1)])
        self.assertEqual(walk.state(), ((1, 0, 0), 1, (1, 0, 0), (0, 1, 0), 8))
        self.refused(NoOrder, walk, lambda: walk.go(5, 0, (0, 0, 0)))
        # A walk that begins now goes by the hold as it is now.
        late = Walk(hold, start_state(hold, (0, 0, 0, 0)))
        self.refused(NoBand, late, lambda: late.go(0, 0, (0, 0, 0, 0)), (0, 0))

    def test_lists_that_are_changed_behind(self):
        walk = walk_of(three_rooms())
        bands = [0, 1, 0]
        warmths = [(3, 1), (10, 1), (3, 1)]
        walk.go(0, 0, bands, warmths)
        self.assertEqual((bands, warmths), ([0, 1, 0], [(3, 1), (10, 1), (3, 1)]))
        bands[1] = 7
        warmths.clear()
        self.assertEqual(walk.state()[0], (0, 1, 0))
        self.assertIs(type(walk.state()[0]), tuple)

    def test_two_walks(self):
        hold = three_rooms()
        one = walk_of(hold)
        other = walk_of(hold)
        one.go(1, 0, (1, 0, 0))
        self.assertEqual((one.turns(), other.turns(), other.state()[0]), (1, 0, (0, 0, 0)))


class InterfaceTest(unittest.TestCase):
    def test_names_and_arguments(self):
        rows = {
            "__init__": "self hold state", "go": "self order out bands warmths", "leave": "self order out warmths",
            "state": "self", "turns": "self", "is_left": "self",
        }
        for name, wanted in rows.items():
            with self.subTest(name=name):
                self.assertEqual(list(inspect.signature(getattr(Walk, name)).parameters), wanted.split())


if __name__ == "__main__":
    unittest.main()
