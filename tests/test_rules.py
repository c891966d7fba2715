"""Stage 6: the rules, with the promises 0.1 to 0.6, 0.10, 0.13, 0.19 and 6.1 as far as it needs them."""

import itertools
import unittest

from chainpacks.errors import InvalidLot, InvalidOperation, InvalidStore
from chainpacks.pack import rules
from chainpacks.pack.packings import Packing, is_packing_of
from chainpacks.pack.rules import is_greedy, is_row, is_rule, is_taken, lot_of, pack, pack_row
from chainpacks.things.lots import Lot
from chainpacks.things.stores import Store
from walks import all_holds, all_rows, all_things, can_fit, lot_of_things, packing_of, store_of, walk
from wrong_values import LONGEST, all_values, not_lots, not_pairs_of_sizes, not_stores, raised

PARCELS = Lot({1: 5, 2: 3, 6: 4})
SHELVES = Store((10, 2), (7, 3))
RULES = ("first", "last", "tightest")
CHAINED = [(1, 2, 4), (1, 2, 6), (2, 6)]
NOT_CHAINED = [(2, 3), (3, 4, 5), (1, 3, 4)]


def chained_counts(figures):
    """A great lot of a chain, and a great store in which it fits with space for some things more."""
    great = 10 ** (figures - 1)
    lot = Lot({1: great, 7: 2 * great, 7 * great: great // 2, 14 * great: great // 5})
    store = Store((15 * great, great // 10), (29 * great + 3, great // 10), (7 * great + 6, great // 2), (7, 3 * great))
    return lot, store


class TestExamples(unittest.TestCase):
    def test_first_example(self):
        told = [
            is_rule("widest"), pack(PARCELS, SHELVES)[1] == Lot({}), pack(PARCELS, SHELVES, rule="last")[0].runs[0],
        ]
        self.assertEqual(told, [False, True, (10, 1, ((1, 2), (2, 1)))])

    def test_second_example(self):
        self.assertEqual(pack(PARCELS, SHELVES)[0].runs, (
            (10, 1, ((2, 2), (6, 1))), (10, 1, ((1, 2), (2, 1), (6, 1))), (7, 2, ((1, 1), (6, 1))), (7, 1, ((1, 1),)),
        ))

    def test_third_example(self):
        three = Lot({3: 3, 4: 1})
        told = [
            pack(three, Store((7, 1), (6, 1)))[1] == Lot({}),
            pack(three, Store((7, 1), (6, 1)), rule="tightest")[1] == Lot({3: 1}),
            pack(three, Store((6, 1), (7, 1)))[1] == Lot({3: 1}),
        ]
        self.assertEqual(told, [True, True, True])

    def test_fourth_example(self):
        told = [
            is_taken(((1, 1), (2, 2)), Store((3, 1), (2, 1))), is_taken(((1, 1), (2, 2)), Store((2, 1), (3, 1))),
            pack_row(((2, 1), (1, 9)), Store((3, 2)))[1],
        ]
        self.assertEqual(told, [True, False, 5])

    def test_constants(self):
        self.assertEqual((rules.RULES, rules.MAX_ROW), (RULES, 200))

    def test_rules(self):
        for rule in RULES:
            self.assertIs(is_rule(rule), True)
        for value in all_values() + ["First", "first ", "tight", "", RULES, ["first"], b"first"]:
            self.assertIs(is_rule(value), False)


class TestPack(unittest.TestCase):
    """The rules against walks through single things and single rooms."""

    def check(self, things, rooms):
        lot, store = lot_of_things(list(things)), store_of(rooms)
        order = sorted(things, reverse=True)
        for rule in RULES:
            holds, packed = walk(order, rooms, rule)
            told = pack(lot, store, rule=rule)
            self.assertIsInstance(told, tuple)
            self.assertEqual(told, (packing_of(rooms, holds), lot_of_things(order[packed:])))
            self.assertIs(is_greedy(lot, store, told), True)
            if rule == "first":
                self.assertEqual(pack(lot, store), told)
            if lot.is_chained:
                # A chained lot is packed exactly if it fits, and each rule leaves the same things of it.
                self.assertIs(len(told[1]) == 0, can_fit(things, rooms))
                self.assertEqual(told[1], pack(lot, store)[1])

    def test_chained_lots(self):
        for sizes in CHAINED:
            for things, rooms in itertools.product(all_things(sizes, 5), all_rows((3, 4, 7), 3)):
                self.check(things, rooms)

    def test_other_lots(self):
        for sizes in NOT_CHAINED:
            for things, rooms in itertools.product(all_things(sizes, 4), all_rows((3, 6, 7), 3)):
                self.check(things, rooms)

    def test_runs_of_many(self):
        rooms = (7,) * 3 + (5,) * 4 + (7,) * 2 + (9,)
        for counts in ((5, 9, 3), (2, 0, 9), (30, 4, 1), (0, 13, 2), (9, 9, 9)):
            things = [size for size, count in zip((1, 2, 4), counts) for _ in range(count)]
            self.check(things, rooms)
            self.check([thing + 1 for thing in things], rooms)

    def test_ties_between_equal_spaces(self):
        # Behind the fours each room has 3 left, in two runs; the first of them in the row is taken.
        lot = Lot({2: 1, 4: 2})
        store = Store((7, 1), (9, 1), (7, 1))
        self.assertEqual(pack(lot, store, rule="tightest")[0].runs,
                         ((7, 1, ((2, 1), (4, 1))), (9, 1, ()), (7, 1, ((4, 1),))))
        store = Store((9, 1), (7, 2), (5, 1))
        self.assertEqual(pack(Lot({3: 1, 6: 1}), store, rule="tightest")[0].runs,
                         ((9, 1, ()), (7, 1, ((6, 1),)), (7, 1, ()), (5, 1, ((3, 1),))))
        store = Store((8, 1), (5, 2))
        self.assertEqual(pack(Lot({3: 2, 5: 1}), store, rule="tightest")[0].runs,
                         ((8, 1, ((3, 1),)), (5, 1, ((5, 1),)), (5, 1, ((3, 1),))))

    def test_nothing_some_and_all(self):
        self.assertEqual(pack(Lot(), Store()), (Packing(), Lot()))
        self.assertEqual(pack(Lot(), SHELVES), (Packing((10, 2, ()), (7, 3, ())), Lot()))
        for rule in RULES:
            self.assertEqual(pack(PARCELS, Store(), rule=rule), (Packing(), PARCELS))
            self.assertEqual(pack(PARCELS, Store((5, 9)), rule=rule), (Packing((5, 9, ())), PARCELS))
            packing, left = pack(PARCELS, Store((6, 3)), rule=rule)
            self.assertEqual((packing.runs, left), (((6, 3, ((6, 1),)),), Lot({1: 5, 2: 3, 6: 1})))
            packing, left = pack(Lot({1: 5, 2: 3, 6: 3}), Store((6, 3), (9, 1)), rule=rule)
            self.assertEqual((packing.lot, left), (Lot({1: 3, 2: 3, 6: 3}), Lot({1: 2})))

    def test_it_stops_at_the_first_thing_without_a_room(self):
        # The ones would fit, but they stand behind a three that does not.
        for rule in RULES:
            self.assertEqual(pack(Lot({1: 2, 3: 2}), Store((5, 1)), rule=rule)[1], Lot({1: 2, 3: 1}))

    def test_great_numbers(self):
        for figures in (20, 100, 199):
            lot, store = chained_counts(figures)
            for rule in RULES:
                packing, left = pack(lot, store, rule=rule)
                self.assertEqual(packing.lot + left, lot)
                self.assertEqual(packing.store, store)
                self.assertLessEqual(len(packing), 2000)
                self.assertIs(is_greedy(lot, store, (packing, left)), True)
                self.assertEqual(left, pack(lot, store)[1])
                fit = all(lot.units(size) <= store.units(size) for size in lot.sizes)
                self.assertIs(len(left) == 0, fit)
                self.assertIs(is_packing_of(lot, store, packing), fit)

    def test_longest_numbers(self):
        lot, store = Lot({LONGEST: LONGEST}), Store((LONGEST, LONGEST))
        for rule in RULES:
            self.assertEqual(pack(lot, store, rule=rule), (Packing((LONGEST, LONGEST, ((LONGEST, 1),))), Lot()))
            packing, left = pack(Lot({1: LONGEST, LONGEST: LONGEST}), store, rule=rule)
            self.assertEqual((packing.left, left), (0, Lot({1: LONGEST})))

    def test_forty_runs_and_twelve_sizes(self):
        store = Store(*[(1000 + 37 * at % 41, 1 + at) for at in range(40)])
        lot = Lot({2 ** k: 3 + 5 * k for k in range(12)})
        for rule in RULES:
            packing, left = pack(lot, store, rule=rule)
            self.assertEqual((packing.lot + left, packing.store), (lot, store))
            self.assertLessEqual(len(packing), 40 + 24)

    def test_any_order_of_rooms(self):
        # A store behind any exchange of its rooms takes the same chained lots, and leaves the same things.
        for rooms in itertools.permutations((7, 5, 4, 4)):
            self.assertEqual(pack(Lot({1: 9, 2: 3, 4: 3}), store_of(rooms))[1], Lot({1: 7}))


class TestGreedy(unittest.TestCase):
    def greedy_pairs(self, things, rooms):
        """All that can come about if each thing goes into any room with enough space, by a look at all ways."""
        found, states = set(), {tuple(() for _ in rooms)}
        order = sorted(things, reverse=True)
        for at, thing in enumerate(order):
            behind = set()
            for holds in states:
                free = [spot for spot, room in enumerate(rooms) if room - sum(holds[spot]) >= thing]
                if not free:
                    found.add((holds, tuple(order[at:])))
                for spot in free:
                    behind.add(holds[:spot] + (tuple(sorted(holds[spot] + (thing,))),) + holds[spot + 1:])
            states = behind
        return found | {(holds, ()) for holds in states}

    def check(self, things, rooms):
        lot, store = lot_of_things(list(things)), store_of(rooms)
        pairs = self.greedy_pairs(things, rooms)
        told = {(packing_of(rooms, holds).runs, lot_of_things(left).lines) for holds, left in pairs}
        # Each packing of each part of the lot is tried, with all else left.
        for many in range(len(things) + 1):
            for part in set(itertools.combinations(things, many)):
                left = lot - lot_of_things(part)
                for holds in all_holds(part, rooms):
                    packing = packing_of(rooms, holds)
                    self.assertIs(is_greedy(lot, store, (packing, left)), (packing.runs, left.lines) in told)

    def test_every_pair(self):
        for sizes in ((1, 2), (2, 3), (1, 3, 4)):
            for things in all_things(sizes, 4):
                for rooms in ((), (4,), (3, 4), (4, 3), (5, 5), (3, 3, 4), (2, 6, 3)):
                    self.check(things, rooms)

    def test_near_values(self):
        packing, left = pack(Lot({1: 2, 3: 2}), Store((5, 1), (2, 1)))
        lot, store = Lot({1: 2, 3: 2}), Store((5, 1), (2, 1))
        self.assertIs(is_greedy(lot, store, (packing, left)), True)
        for value in (
            (packing, Lot()), (packing, lot), (packing, left + Lot({1: 1})), (packing, left, left), (packing,), [packing, left],
            (left, packing), (packing.runs, left), (packing, left.counts), packing, left, (packing, None), (None, left),
            (packing.backward(), left), (Packing(), left), (packing.joined(Packing((1, 1, ()))), left),
            (Packing((5, 1, ()), (2, 1, ())), lot), (Packing((5, 1, ((3, 1),)), (2, 1, ((1, 1),))), Lot({1: 1, 3: 1})),
            (Packing((5, 1, ((1, 1), (3, 1))), (2, 1, ())), Lot({1: 1, 3: 1})),
        ):
            self.assertIs(is_greedy(lot, store, value), False, value)
        for value in all_values():
            self.assertIs(is_greedy(lot, store, value), False)
            self.assertIs(is_greedy(lot, store, (packing, value)), value == left)
            self.assertIs(is_greedy(lot, store, (value, left)), False)

    def test_great_numbers(self):
        great = 10 ** 99
        lot, store = Lot({2: great, 3: great}), Store((5, great), (3, 1))
        shown = Packing((5, great, ((2, 1), (3, 1))), (3, 1, ()))
        self.assertIs(is_greedy(lot, store, (shown, Lot())), True)
        spread = Packing((5, great // 2, ((3, 1),)), (5, great // 2, ((2, 1), (3, 1))), (3, 1, ()))
        self.assertIs(is_greedy(lot, store, (spread, Lot({2: great // 2}))), False)
        self.assertIs(is_greedy(Lot({2: great + 1, 3: great}), store, (shown, Lot({2: 1}))), False)
        last = Packing((5, great, ((2, 1), (3, 1))), (3, 1, ((2, 1),)))
        self.assertIs(is_greedy(Lot({2: great + 2, 3: great}), store, (last, Lot({2: 1}))), True)
        # A packing whose things are too many for a lot is only no such packing.
        huge = Packing((LONGEST, LONGEST, ((1, LONGEST),)))
        self.assertIs(is_greedy(lot, Store((LONGEST, LONGEST)), (huge, Lot())), False)

    def test_wrong_lots_and_stores(self):
        for value in not_lots():
            self.assertEqual(raised(is_greedy, value, None, None), (InvalidLot, None))
        for value in not_stores():
            self.assertEqual(raised(is_greedy, PARCELS, value, None), (InvalidStore, None))


class TestRows(unittest.TestCase):
    def small_rows(self):
        pairs = [(size, many) for size in (1, 2, 3) for many in (1, 2)]
        return [row for many in range(4) for row in itertools.product(pairs, repeat=many)]

    def test_against_walks(self):
        for row in self.small_rows():
            things = [size for size, many in row for _ in range(many)]
            self.assertIs(is_row(row), True)
            self.assertEqual(lot_of(row), lot_of_things(things))
            for rooms in ((), (2,), (3, 2), (2, 3), (1, 4, 3), (5, 5), (3, 3, 3)):
                holds, packed = walk(things, rooms, "first")
                self.assertEqual(pack_row(row, store_of(rooms)), (packing_of(rooms, holds), packed))
                self.assertIs(is_taken(row, store_of(rooms)), packed == len(things))

    def test_edges(self):
        self.assertEqual((is_row(()), lot_of(()), is_taken((), Store())), (True, Lot(), True))
        self.assertEqual(pack_row((), SHELVES), (Packing((10, 2, ()), (7, 3, ())), 0))
        self.assertEqual(pack_row(((1, 1),), Store()), (Packing(), 0))
        two_hundred = tuple((1 + at % 12, 1 + at) for at in range(200))
        self.assertIs(is_row(two_hundred), True)
        self.assertEqual(lot_of(two_hundred).number, 20100)
        self.assertIs(is_row(two_hundred + ((1, 1),)), False)
        self.assertIs(is_row(tuple((size, 1) for size in range(1, 13))), True)
        self.assertIs(is_row(tuple((size, 1) for size in range(1, 14))), False)
        self.assertIs(is_row(two_hundred[:199] + ((13, 1),)), False)
        packing, packed = pack_row(two_hundred, Store((100, 10), (77, 5)))
        self.assertEqual((packing.lot.number, packing.store), (packed, Store((100, 10), (77, 5))))
        self.assertLess(packed, 20100)

    def test_the_same_size_again(self):
        self.assertEqual(lot_of(((2, 1), (1, 3), (2, 4))), Lot({1: 3, 2: 5}))
        packing, packed = pack_row(((2, 1), (1, 3), (2, 4)), Store((5, 1), (4, 4)))
        self.assertEqual(packing.runs, ((5, 1, ((1, 3), (2, 1))), (4, 2, ((2, 2),)), (4, 2, ())))
        self.assertEqual(packed, 8)

    def test_what_comes_behind_a_thing_without_a_room_is_not_packed(self):
        self.assertEqual(pack_row(((3, 1), (1, 1)), Store((2, 1))), (Packing((2, 1, ())), 0))
        self.assertEqual(pack_row(((1, 1), (3, 2), (1, 1)), Store((4, 1), (2, 1)))[1], 2)

    def test_great_numbers(self):
        for figures in (20, 100, 200):
            great = 10 ** (figures - 1)
            row = ((2, great), (1, 3 * great), (2, great))
            # One of the lesser rooms has a single one when the last twos come, the rooms behind it have nothing.
            packing, packed = pack_row(row, Store((4, great), (3, great)))
            third = great // 3
            self.assertEqual((packed, packing.left), (5 * great - third, great - third - 1))
            self.assertEqual(packing.lot.number, packed)
            self.assertIs(is_taken(row, Store((7 * great, 1))), True)
            self.assertIs(is_taken(row, Store((7 * great - 1, 1))), False)
            self.assertIs(is_taken(row[:2], Store((5, great))), True)
        self.assertIs(is_taken(((1, LONGEST), (1, LONGEST)), Store((LONGEST, 2))), True)
        self.assertIs(is_taken(((1, LONGEST), (1, LONGEST), (1, 1)), Store((LONGEST, 2))), False)

    def test_no_rows(self):
        wrong = [value for value in all_values() if value != ()]
        wrong += [(pair,) for pair in not_pairs_of_sizes()] + [((1, 1), pair) for pair in not_pairs_of_sizes()]
        for value in wrong + [[(1, 1)], {1: 1}, (1, 1), ((1, 1), [1, 1]), ((1, 1), None)]:
            self.assertIs(is_row(value), False, value)
            self.assertEqual(raised(lot_of, value), (InvalidOperation, None))
            self.assertEqual(raised(pack_row, value, None), (InvalidOperation, None))
            self.assertEqual(raised(is_taken, value, None), (InvalidOperation, None))

    def test_no_stores(self):
        for value in not_stores():
            self.assertEqual(raised(pack_row, ((1, 1),), value), (InvalidStore, None))
            self.assertEqual(raised(is_taken, (), value), (InvalidStore, None))


class TestWrongInputs(unittest.TestCase):
    def test_pack(self):
        for value in not_lots():
            self.assertEqual(raised(lambda: pack(value, None, rule=None)), (InvalidLot, None))
        for value in not_stores():
            self.assertEqual(raised(lambda: pack(PARCELS, value, rule=None)), (InvalidStore, None))
        for value in all_values() + ["widest", "First", "", ("first",), ["first"]]:
            self.assertEqual(raised(lambda: pack(PARCELS, SHELVES, rule=value)), (InvalidOperation, None))

    def test_the_rule_is_told_by_name(self):
        with self.assertRaises(TypeError):
            pack(PARCELS, SHELVES, "first")

    def test_nothing_changes(self):
        lot, store = Lot({1: 5, 2: 3, 6: 4}), Store((10, 2), (7, 3))
        for rule in RULES:
            first = pack(lot, store, rule=rule)
            self.assertEqual(pack(lot, store, rule=rule), first)
            self.assertEqual((lot, store), (PARCELS, SHELVES))
        row = ((2, 3), (1, 4))
        self.assertEqual(pack_row(row, store), pack_row(row, store))
        self.assertEqual((row, store), (((2, 3), (1, 4)), SHELVES))


if __name__ == "__main__":
    unittest.main()
