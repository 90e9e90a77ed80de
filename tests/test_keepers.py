import inspect
import random
import unittest

from stoke import keepers
from stoke.conditions import both_of, burns, colder, stocked, unlike
from stoke.errors import NoKeeper, StokeError, TooMany
from stoke.keepers import Below, Clock, Either, Keeper, Pair, Ruled, Sills, Table, Together

GREAT = 10 ** 59
STATE = ((2, 0, 1), 5, (1, 0, 0), (0, 0, 0), 7)


def state_of(*bands, burning=0, heap=0):
    none = (0,) * len(bands)
    return (bands, burning, none, none, heap)


def seen(keeper):
    return (keeper.minds(), keeper.size(), keeper.wish(0, STATE), keeper.after(0, STATE))


class KeeperTest(unittest.TestCase):
    def refused(self, kind, deed):
        with self.assertRaises(kind) as caught:
            deed()
        self.assertIs(type(caught.exception), kind)
        self.assertIsInstance(caught.exception, StokeError)


class SimpleTest(KeeperTest):
    def test_keeper(self):
        self.assertEqual(seen(Keeper()), (1, 1, 0, 0))

    def test_classes(self):
        for kind in (Ruled, Sills, Clock, Table, Pair):
            self.assertEqual(kind.__bases__, (Keeper,))
        for kind in (Either, Together, Below):
            self.assertEqual(kind.__bases__, (Pair,))

    def test_ruled(self):
        keeper = Ruled([(0, burns(0)), (1, colder(1, 0)), (2, stocked(7))])
        self.assertEqual(seen(keeper), (1, 1, 5, 0))
        self.assertEqual(keeper.wish(0, state_of(0, -1, 0)), 2)
        self.assertEqual(keeper.wish(0, state_of(0, 0, 0)), 0)

    def test_ruled_of_no_rows(self):
        self.assertEqual(seen(Ruled([])), (1, 1, 0, 0))

    def test_ruled_with_a_room_in_several_rows(self):
        keeper = Ruled([(1, colder(0, 1)), (1, colder(2, 1)), (1, colder(0, 3)), (0, unlike(colder(0, 1)))])
        self.assertEqual(keeper.wish(0, state_of(0, 0, 0)), 2)
        self.assertEqual(keeper.wish(0, state_of(2, 0, 1)), 3)
        self.assertEqual(keeper.wish(0, state_of(3, 0, 1)), 1)
        self.assertEqual(keeper.wish(0, state_of(3, 0, 0)), 3)

    def test_sills(self):
        keeper = Sills({1: (1, 3)})
        self.assertEqual(seen(keeper)[:2], (1, 1))
        rows = ((0, 0, 2), (0, 2, 2), (1, 0, 0), (1, 2, 2), (2, 0, 0), (2, 2, 2), (3, 0, 0), (3, 2, 0), (1, 1, 0))
        for band, burning, wanted in rows:
            with self.subTest(band=band, burning=burning):
                self.assertEqual(keeper.wish(0, state_of(0, band, burning=burning)), wanted)
                self.assertEqual(keeper.after(0, state_of(0, band, burning=burning)), 0)

    def test_sills_of_several_rooms_and_of_none(self):
        keeper = Sills({2: (1, 2), 0: (0, 4)})
        self.assertEqual(keeper.wish(0, state_of(3, 0, 0, burning=1)), 5)
        self.assertEqual(keeper.wish(0, state_of(3, 0, 0)), 4)
        self.assertEqual(keeper.wish(0, state_of(0, 0, 1, burning=4)), 4)
        self.assertEqual(seen(Sills({})), (1, 1, 0, 0))

    def test_sills_at_their_edges(self):
        for low in (-GREAT, -1, 0, 1, 2, GREAT):
            keeper = Sills({0: (low, low)})
            for band in (0, 1, 2):
                for burning in (0, 1):
                    self.assertEqual(keeper.wish(0, state_of(band, burning=burning)), 1 if band < low else 0)
        keeper = Sills({0: (-GREAT, GREAT)})
        self.assertEqual([keeper.wish(0, state_of(5, burning=burning)) for burning in (0, 1)], [0, 1])

    def test_sills_refused(self):
        for low, high in ((1, 0), (0, -1), (GREAT, GREAT - 1), (GREAT, -GREAT)):
            self.refused(NoKeeper, lambda: Sills({0: (low, high)}))
            self.refused(NoKeeper, lambda: Sills({0: (0, 0), 1: (low, high), 2: (0, 1)}))

    def test_clock(self):
        wishes = [5, 0, 2 ** 60, 1]
        keeper = Clock(wishes)
        self.assertEqual((keeper.minds(), keeper.size()), (4, 1))
        self.assertEqual([keeper.wish(mind, STATE) for mind in range(4)], wishes)
        self.assertEqual([keeper.after(mind, STATE) for mind in range(4)], [1, 2, 3, 0])

    def test_clock_of_one_and_of_twenty_four(self):
        self.assertEqual(seen(Clock([6])), (1, 1, 6, 0))
        keeper = Clock(list(range(24)))
        self.assertEqual(keeper.minds(), 24)
        self.assertEqual([keeper.wish(mind, STATE) for mind in range(24)], list(range(24)))
        self.assertEqual([keeper.after(mind, STATE) for mind in range(24)], list(range(1, 24)) + [0])

    def test_clock_refused(self):
        self.refused(NoKeeper, lambda: Clock([]))
        self.refused(NoKeeper, lambda: Clock([0] * 25))
        self.refused(NoKeeper, lambda: Clock([0] * 2000))


class TableTest(KeeperTest):
    def test_beside_none(self):
        for keeper in (Table({STATE: 6}), Table({STATE: 6}, None)):
            self.assertEqual(seen(keeper), (1, 1, 6, 0))
            self.assertEqual(keeper.wish(0, state_of(0, 0, 0)), 0)
            self.assertEqual(keeper.after(0, state_of(0, 0, 0)), 0)
        self.assertEqual(seen(Table({})), (1, 1, 0, 0))

    def test_beside_another(self):
        keeper = Table({STATE: 0, state_of(1): 2 ** 60}, Clock([1, 2, 4]))
        self.assertEqual((keeper.minds(), keeper.size()), (3, 2))
        for mind, wish in enumerate((1, 2, 4)):
            # A wish of none that stands there is a wish, too; and the other's mind goes on all the same.
            self.assertEqual(keeper.wish(mind, STATE), 0)
            self.assertEqual(keeper.wish(mind, state_of(1)), 2 ** 60)
            self.assertEqual(keeper.wish(mind, state_of(0)), wish)
            for state in (STATE, state_of(0)):
                self.assertEqual(keeper.after(mind, state), (mind + 1) % 3)

    def test_beside_another_table(self):
        keeper = Table({STATE: 1}, Table({STATE: 2, state_of(0): 3}, Sills({0: (9, 9)})))
        self.assertEqual(seen(keeper), (1, 3, 1, 0))
        self.assertEqual([keeper.wish(0, state_of(band)) for band in (0, 1, 9)], [3, 1, 0])

    def test_keys_are_not_looked_at(self):
        keeper = Table({((), 0, (), (), -5): 1, (0,): 2})
        self.assertEqual(keeper.wish(0, ((), 0, (), (), -5)), 1)

    def test_size(self):
        keeper = Keeper()
        for size in range(2, 16):
            keeper = Table({}, keeper)
            self.assertEqual(keeper.size(), size)
        self.refused(TooMany, lambda: Table({}, keeper))
        three = Pair(Keeper(), Keeper())
        seven = Pair(three, three)
        fifteen = Pair(seven, seven)
        self.refused(TooMany, lambda: Table({STATE: 1}, fifteen))
        self.assertEqual(Table({STATE: 1}, seven).size(), 8)

    def test_minds(self):
        sixty = Pair(Clock([0] * 10), Clock([0] * 6))
        self.assertEqual(Table({}, sixty).minds(), 60)


class PairTest(KeeperTest):
    def test_minds_of_both(self):
        pair = Pair(Clock([1, 2, 4]), Clock([8, 16]))
        self.assertEqual((pair.minds(), pair.size()), (6, 3))
        self.assertEqual([pair.wish(mind, STATE) for mind in range(6)], [1, 1, 2, 2, 4, 4])
        self.assertEqual([pair.after(mind, STATE) for mind in range(6)], [3, 2, 5, 4, 1, 0])

    def test_wishes(self):
        one = Clock([3, 5])
        other = Clock([1, 6, 4])
        rows = (
            (Pair(one, other), [3, 3, 3, 5, 5, 5]), (Either(one, other), [3, 7, 7, 5, 7, 5]),
            (Together(one, other), [1, 2, 0, 1, 4, 4]),
            (Below(0, 3, one, other), [3, 3, 3, 5, 5, 5]), (Below(0, 2, one, other), [1, 6, 4, 1, 6, 4]),
        )
        for keeper, wanted in rows:
            self.assertEqual([keeper.wish(mind, STATE) for mind in range(6)], wanted)
            self.assertEqual([keeper.after(mind, STATE) for mind in range(6)], [4, 5, 3, 1, 2, 0])
            self.assertEqual((keeper.minds(), keeper.size()), (6, 3))

    def test_below_at_its_edges(self):
        for band, wanted in ((-GREAT, 2), (-1, 2), (0, 2), (1, 2), (2, 1), (GREAT, 1)):
            self.assertEqual(Below(2, band, Clock([1]), Clock([2])).wish(0, STATE), wanted)
        self.assertEqual(Below(1, 1, Clock([1]), Clock([2])).wish(0, STATE), 1)

    def test_one_keeper_twice(self):
        clock = Clock([1, 2, 4])
        pair = Either(clock, clock)
        self.assertEqual((pair.minds(), pair.size()), (9, 3))
        self.assertEqual(pair.wish(5, STATE), 6)
        self.assertEqual(pair.after(5, STATE), 6)

    def test_just_sixty_minds(self):
        twenty = Clock([0] * 20)
        three = Clock([0] * 3)
        for keeper in (Pair(twenty, three), Either(three, twenty), Together(twenty, three), Below(0, 0, three, twenty)):
            self.assertEqual(keeper.minds(), 60)
            self.assertEqual(keeper.after(59, STATE), 0)
        more = Clock([0] * 21)
        self.refused(TooMany, lambda: Pair(more, three))
        self.refused(TooMany, lambda: Either(three, more))
        self.refused(TooMany, lambda: Together(more, three))
        self.refused(TooMany, lambda: Below(0, 0, more, three))
        self.refused(TooMany, lambda: Pair(Pair(twenty, three), Clock([0, 0])))
        self.assertEqual(Pair(Pair(twenty, three), Clock([0])).minds(), 60)

    def test_just_one_mind_more_than_sixty(self):
        class Many(Keeper):
            def minds(self):
                return 61

        for deed in (
            lambda: Pair(Many(), Keeper()), lambda: Either(Keeper(), Many()), lambda: Together(Many(), Keeper()),
            lambda: Below(0, 0, Keeper(), Many()), lambda: Table({}, Many()),
        ):
            self.refused(TooMany, deed)

    def test_a_size_of_just_fifteen(self):
        three = Pair(Keeper(), Sills({}))
        seven = Either(three, Together(Ruled([]), Clock([0])))
        self.assertEqual((three.size(), seven.size()), (3, 7))
        for keeper in (Pair(seven, seven), Either(seven, seven), Together(seven, seven), Below(0, 0, seven, seven)):
            self.assertEqual(keeper.size(), 15)
        eight = Table({}, seven)
        for deed in (
            lambda: Pair(seven, eight), lambda: Pair(eight, seven), lambda: Either(eight, seven),
            lambda: Together(eight, seven), lambda: Below(0, 0, eight, seven), lambda: Below(0, 0, seven, eight),
        ):
            self.refused(TooMany, deed)


# A keeper as a tree, with a tree of minds beside it: the same once more, without any numbering of minds.
class SomeTest(unittest.TestCase):
    def some_keeper(self, source, depth):
        kind = source.choice(("clock", "sills", "ruled")) if depth == 0 else source.choice(
            ("clock", "pair", "either", "together", "below", "table"))
        if kind == "clock":
            wishes = [source.randrange(8) for _ in range(source.randint(1, 3))]
            return Clock(wishes), ("clock", wishes)
        if kind == "sills":
            sills = {room: (source.randint(0, 2), source.randint(2, 4)) for room in source.sample(range(3), 2)}
            return Sills(sills), ("sills", sills)
        if kind == "ruled":
            rows = [(source.randrange(3), colder(source.randrange(3), source.randint(0, 3))) for _ in range(3)]
            return Ruled(rows), ("ruled", rows)
        one, plain = self.some_keeper(source, depth - 1)
        other, plainer = self.some_keeper(source, depth - 1)
        if kind == "table":
            rows = {self.some_state(source): source.randrange(8) for _ in range(60)}
            return Table(rows, one), ("table", rows, plain)
        if kind == "below":
            room, band = source.randrange(3), source.randint(0, 4)
            return Below(room, band, one, other), ("below", plain, plainer, room, band)
        made = {"pair": Pair, "either": Either, "together": Together}[kind](one, other)
        return made, (kind, plain, plainer)

    def some_state(self, source):
        bands = tuple(source.randrange(4) for _ in range(3))
        return (bands, source.randrange(2), (0, 0, 0), (0, 0, 0), 0)

    def begin(self, tree):
        if tree[0] in ("clock", "sills", "ruled"):
            return 0
        if tree[0] == "table":
            return self.begin(tree[2])
        return (self.begin(tree[1]), self.begin(tree[2]))

    def go_on(self, tree, mind):
        if tree[0] == "clock":
            return (mind + 1) % len(tree[1])
        if tree[0] in ("sills", "ruled"):
            return 0
        if tree[0] == "table":
            return self.go_on(tree[2], mind)
        return (self.go_on(tree[1], mind[0]), self.go_on(tree[2], mind[1]))

    def wish(self, tree, mind, state):
        kind = tree[0]
        if kind == "clock":
            return tree[1][mind]
        if kind == "sills":
            burning = [room for room in range(3) if state[1] // 2 ** room % 2]
            return sum(2 ** room for room, (low, high) in tree[1].items()
                       if state[0][room] < low or (state[0][room] < high and room in burning))
        if kind == "ruled":
            return sum(2 ** room for room in {room for room, condition in tree[1] if condition(state)})
        if kind == "table":
            return tree[1][state] if state in tree[1] else self.wish(tree[2], mind, state)
        one = self.wish(tree[1], mind[0], state)
        other = self.wish(tree[2], mind[1], state)
        if kind == "below":
            return one if state[0][tree[3]] < tree[4] else other
        return {"pair": one, "either": one | other, "together": one & other}[kind]

    def test_put_together(self):
        source = random.Random(1)
        checked = 0
        while checked < 60:
            try:
                keeper, tree = self.some_keeper(source, source.randint(0, 3))
            except TooMany:
                continue
            checked += 1
            mind = 0
            minds = self.begin(tree)
            for _ in range(70):
                state = self.some_state(source)
                self.assertIn(mind, range(keeper.minds()))
                self.assertEqual(keeper.wish(mind, state), self.wish(tree, minds, state), tree)
                mind = keeper.after(mind, state)
                minds = self.go_on(tree, minds)


class OwnTest(unittest.TestCase):
    def test_rows_of_ruled(self):
        rows = [(0, burns(0))]
        keeper = Ruled(rows)
        rows.append((1, both_of(burns(0), burns(2))))
        self.assertEqual(keeper.wish(0, STATE), 1)
        rows.clear()
        self.assertEqual(keeper.wish(0, STATE), 1)

    def test_sills(self):
        sills = {1: (1, 1)}
        keeper = Sills(sills)
        sills[2] = (9, 9)
        sills[1] = (0, 0)
        self.assertEqual(keeper.wish(0, STATE), 2)

    def test_wishes_of_a_clock(self):
        wishes = [1, 2]
        keeper = Clock(wishes)
        wishes[0] = 4
        wishes.append(3)
        self.assertEqual((keeper.minds(), keeper.wish(0, STATE), keeper.after(1, STATE)), (2, 1, 0))

    def test_rows_of_a_table(self):
        rows = {STATE: 1}
        keeper = Table(rows)
        rows[STATE] = 2
        rows[state_of(0)] = 2
        self.assertEqual((keeper.wish(0, STATE), keeper.wish(0, state_of(0))), (1, 0))

    def test_asking_changes_nothing(self):
        keeper = Either(Clock([1, 2]), Table({STATE: 4}, Clock([8, 16, 32])))
        ahead = [(keeper.wish(mind, STATE), keeper.after(mind, STATE)) for mind in range(6)]
        again = [(keeper.wish(mind, STATE), keeper.after(mind, STATE)) for mind in range(6)]
        self.assertEqual(ahead, again)

    def test_what_is_handed_in_is_not_changed(self):
        rows, sills, wishes = [(0, burns(0))], {1: (1, 1)}, [1, 2]
        Ruled(rows).wish(0, STATE)
        Sills(sills).wish(0, STATE)
        Clock(wishes).wish(0, STATE)
        self.assertEqual((len(rows), sills, wishes), (1, {1: (1, 1)}, [1, 2]))


class InterfaceTest(unittest.TestCase):
    def test_names_and_arguments(self):
        rows = {
            "Keeper": "", "Ruled": "rows", "Sills": "sills", "Clock": "wishes", "Table": "rows other",
            "Pair": "one other", "Either": "one other", "Together": "one other", "Below": "room band one other",
        }
        methods = {"minds": "self", "size": "self", "wish": "self mind state", "after": "self mind state"}
        for name, wanted in rows.items():
            with self.subTest(name=name):
                self.assertEqual(list(inspect.signature(getattr(keepers, name)).parameters), wanted.split())
                for method, arguments in methods.items():
                    found = inspect.signature(getattr(getattr(keepers, name), method)).parameters
                    self.assertEqual(list(found), arguments.split())


if __name__ == "__main__":
    unittest.main()
