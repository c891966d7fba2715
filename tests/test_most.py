"""Stage 11: what is left out, with the promises 0.1 to 0.6, 0.8, 0.11, 0.12, 0.18, 11.1 and 11.2."""

import itertools
import unittest

from chainpacks.decide.levels import fits
from chainpacks.decide.most import (
    is_kept_things, is_kept_total, is_things_paper, is_total_paper, keep_all_of, keep_things, keep_total, most_things,
    most_total, things_paper, total_paper,
)
from chainpacks.errors import InvalidLot, InvalidOperation, InvalidStore, NoChain
from chainpacks.things.lots import Lot
from chainpacks.things.stores import Store
from walks import all_things, can_fit, lot_of_things, store_of
from wrong_values import LONGEST, all_values, not_chains, not_lots, not_stores, raised

PARCELS = Lot({1: 5, 2: 3, 6: 4})
SHELVES = Store((10, 2), (7, 3))
HEAVY = Lot({1: 2, 4: 2, 8: 2})
SMALL = Store((9, 1), (4, 1))
PLAIN = (most_things, most_total, keep_things, keep_total, things_paper, total_paper)
JUDGES = (is_kept_things, is_kept_total, is_things_paper, is_total_paper)
CHAINS = [(1, 2, 4), (2, 6), (1, 3), (3,)]
ROWS = [(), (1,), (3,), (7,), (7, 3), (6, 7), (3, 3, 3), (1, 6, 1), (2, 5), (4, 2, 4)]


def small_pairs(most):
    """Things and rooms of small chained lots and small stores."""
    for sizes in CHAINS:
        yield from itertools.product(all_things(sizes, most), ROWS)


def parts_of(things):
    """All parts of some things."""
    counts = [(size, things.count(size)) for size in sorted(set(things))]
    for taken in itertools.product(*[range(count + 1) for _, count in counts]):
        yield tuple(size for (size, _), many in zip(counts, taken) for _ in range(many))


def fitting_parts(things, rooms):
    """All parts of some things that fit."""
    return [part for part in parts_of(things) if can_fit(part, rooms)]


class TestExamples(unittest.TestCase):
    def test_first_example(self):
        told = [
            most_things(HEAVY, SMALL), most_total(HEAVY, SMALL), keep_things(HEAVY, SMALL).number,
            keep_total(HEAVY, SMALL).counts,
        ]
        self.assertEqual(told, [4, 13, 4, {1: 1, 4: 1, 8: 1}])

    def test_second_example(self):
        told = [
            is_kept_things(HEAVY, SMALL, Lot({1: 2, 4: 2})), is_kept_total(HEAVY, SMALL, Lot({1: 1, 4: 3})),
            is_kept_things(HEAVY, SMALL, Lot({1: 1, 4: 1, 8: 1})),
        ]
        self.assertEqual(told, [True, False, False])

    def test_third_example(self):
        told = [
            is_total_paper(HEAVY, SMALL, (Lot({1: 1, 4: 1, 8: 1}), 1)), is_things_paper(HEAVY, SMALL, (Lot({1: 2, 4: 2}), 8)),
            things_paper(PARCELS, SHELVES)[1],
        ]
        self.assertEqual(told, [True, False, None])

    def test_fourth_example(self):
        told = [
            keep_all_of(HEAVY, SMALL, (8,)), keep_all_of(HEAVY, SMALL, (4,)).counts, keep_all_of(HEAVY, SMALL, ()).number,
            most_total(Lot({}), Store()),
        ]
        self.assertEqual(told, [None, {1: 2, 4: 2}, 4, 0])


class TestSmall(unittest.TestCase):
    """Small lots and stores against a look at all parts."""

    def test_most(self):
        for things, rooms in small_pairs(5):
            lot, store = lot_of_things(things), store_of(rooms)
            fitting = fitting_parts(things, rooms)
            most, total = max(len(part) for part in fitting), max(sum(part) for part in fitting)
            self.assertEqual((most_things(lot, store), most_total(lot, store)), (most, total))
            self.assertIs(is_kept_things(lot, store, keep_things(lot, store)), True)
            self.assertIs(is_kept_total(lot, store, keep_total(lot, store)), True)
            for part in parts_of(things):
                value = lot_of_things(part)
                self.assertIs(is_kept_things(lot, store, value), part in fitting and len(part) == most)
                self.assertIs(is_kept_total(lot, store, value), part in fitting and sum(part) == total)

    def test_papers(self):
        for things, rooms in small_pairs(4):
            lot, store = lot_of_things(things), store_of(rooms)
            self.assertIs(is_things_paper(lot, store, things_paper(lot, store)), True)
            self.assertIs(is_total_paper(lot, store, total_paper(lot, store)), True)
            for part, size in itertools.product(parts_of(things), (None, 0, 1, 2, 3, 4, 6)):
                value = (lot_of_things(part), size)
                self.assertIs(is_things_paper(lot, store, value), self.is_things(things, rooms, part, size))
                self.assertIs(is_total_paper(lot, store, value), self.is_total(things, rooms, part, size))

    def is_things(self, things, rooms, part, size):
        if not can_fit(part, rooms) or part == things:
            return can_fit(part, rooms) and size is None
        smallest = things[:len(part) + 1]
        if size not in smallest:
            return False
        return sum(thing for thing in smallest if thing >= size) // size > sum(room // size for room in rooms)

    def is_total(self, things, rooms, part, size):
        if not can_fit(part, rooms) or part == things:
            return can_fit(part, rooms) and size is None
        if size not in things:
            return False
        return sum(part) == size * sum(room // size for room in rooms) + sum(thing for thing in things if thing < size)

    def test_papers_show_that_nothing_better_fits(self):
        for things, rooms in small_pairs(4):
            lot, store = lot_of_things(things), store_of(rooms)
            self.assertEqual(things_paper(lot, store)[0].number, most_things(lot, store))
            self.assertEqual(total_paper(lot, store)[0].total, most_total(lot, store))

    def test_all_of_some_sizes(self):
        for things, rooms in small_pairs(5):
            lot, store = lot_of_things(things), store_of(rooms)
            for many in range(len(lot) + 1):
                for sizes in itertools.combinations(lot.sizes, many):
                    needed = tuple(thing for thing in things if thing in sizes)
                    kept = keep_all_of(lot, store, sizes)
                    if not can_fit(needed, rooms):
                        self.assertIsNone(kept)
                        continue
                    good = [part for part in fitting_parts(things, rooms) if all(part.count(size) == lot[size] for size in sizes)]
                    self.assertEqual(kept.number, max(len(part) for part in good))
                    self.assertIs(kept.is_part_of(lot) and fits(kept, store), True)
                    self.assertEqual([kept[size] for size in sizes], [lot[size] for size in sizes])


class TestEdges(unittest.TestCase):
    def test_nothing_and_no_rooms(self):
        for store in (Store(), SHELVES):
            self.assertEqual([call(Lot(), store) for call in PLAIN], [0, 0, Lot(), Lot(), (Lot(), None), (Lot(), None)])
            self.assertEqual(keep_all_of(Lot(), store, ()), Lot())
            for judge in (is_things_paper, is_total_paper):
                self.assertIs(judge(Lot(), store, (Lot(), None)), True)
                self.assertIs(judge(Lot(), store, (Lot(), 1)), False)
        self.assertEqual([call(PARCELS, Store()) for call in PLAIN[:4]], [0, 0, Lot(), Lot()])
        self.assertEqual(things_paper(PARCELS, Store()), (Lot(), 1))
        for size in PARCELS.sizes:
            # At each size the empty part has the total that is told, if all smaller things are there; here are none.
            self.assertIs(is_total_paper(PARCELS, Store(), (Lot(), size)), size == 1)
            self.assertIs(is_things_paper(PARCELS, Store(), (Lot(), size)), size == 1)
            self.assertIsNone(keep_all_of(PARCELS, Store(), (size,)))
        self.assertEqual(keep_all_of(PARCELS, Store(), ()), Lot())

    def test_just_enough_and_a_thing_more(self):
        full = Lot({1: 11, 6: 5})
        self.assertEqual((things_paper(full, SHELVES), total_paper(full, SHELVES)), ((full, None), (full, None)))
        self.assertEqual((most_things(full, SHELVES), most_total(full, SHELVES)), (16, 41))
        more = full + Lot({6: 1})
        self.assertEqual((most_things(more, SHELVES), most_total(more, SHELVES)), (16, 41))
        self.assertEqual(total_paper(more, SHELVES), (full, 6))
        self.assertIs(is_things_paper(more, SHELVES, (full, 1)), True)
        self.assertIs(is_things_paper(more, SHELVES, (full, 6)), True)
        self.assertIs(is_total_paper(more, SHELVES, (full, 1)), True)
        more = full + Lot({1: 1})
        self.assertEqual((most_things(more, SHELVES), most_total(more, SHELVES)), (16, 41))
        self.assertEqual([is_total_paper(more, SHELVES, (full, size)) for size in (1, 6)], [True, False])

    def test_sizes_that_no_room_holds(self):
        lot, store = Lot({3: 2, 6: 1, 12: 5}), Store((7, 2))
        self.assertEqual([keep_things(lot, store), keep_total(lot, store)], [Lot({3: 2, 6: 1}), Lot({3: 2, 6: 1})])
        self.assertEqual(total_paper(lot, store), (Lot({3: 2, 6: 1}), 12))
        self.assertEqual([is_total_paper(lot, store, (Lot({3: 2, 6: 1}), size)) for size in (3, 6, 12)], [True, False, True])
        self.assertEqual([is_things_paper(lot, store, (Lot({3: 2, 6: 1}), size)) for size in (3, 6, 12)], [True, True, True])
        self.assertEqual([keep_all_of(lot, store, sizes) for sizes in ((12,), (3, 12))], [None, None])
        small = Lot({3: 1, 6: 1})
        self.assertEqual([keep_things(small, Store((2, 9))), most_total(small, Store((2, 9)))], [Lot(), 0])

    def test_the_most_things_and_the_greatest_total_are_not_one_part(self):
        lot, store = Lot({1: 4, 3: 2}), Store((7, 1))
        self.assertEqual((most_things(lot, store), most_total(lot, store)), (5, 7))
        both = [part for part in (Lot({1: ones, 3: many} if ones and many else {1: ones} if ones else {})
                for ones in range(5) for many in range(3)) if is_kept_things(lot, store, part)]
        self.assertEqual(both, [Lot({1: 4, 3: 1})])
        lot, store = Lot({1: 2, 4: 1}), Store((4, 1))
        self.assertEqual([is_kept_things(lot, store, part) for part in (Lot({1: 2}), Lot({4: 1}))], [True, False])
        self.assertEqual([is_kept_total(lot, store, part) for part in (Lot({1: 2}), Lot({4: 1}))], [False, True])

    def test_values_that_are_no_parts(self):
        part, total = Lot({1: 2, 4: 2}), Lot({1: 1, 4: 1, 8: 1})
        self.assertEqual([is_kept_things(HEAVY, SMALL, part), is_kept_total(HEAVY, SMALL, total)], [True, True])
        for value in (
            Lot({1: 2, 4: 1}), Lot({1: 3, 4: 1}), Lot({2: 2, 4: 2}), Lot({1: 1, 4: 2}), Lot({1: 2, 4: 2, 8: 1}), HEAVY, Lot({3: 4}),
            Lot({2: 2, 3: 2}), Lot({1: 4}), Lot({4: 2, 8: 1}), Lot({1: 13}), (part,), part.counts, part.lines, Lot({13: 1}),
        ):
            self.assertIs(is_kept_things(HEAVY, SMALL, value), False)
            self.assertIs(is_kept_total(HEAVY, SMALL, value), False)
        for value in all_values():
            for judge in JUDGES:
                self.assertIs(judge(HEAVY, SMALL, value), False)
            self.assertIs(is_kept_things(Lot(), SMALL, value), value == Lot())

    def test_values_that_are_no_papers(self):
        part, total = Lot({1: 2, 4: 2}), Lot({1: 1, 4: 1, 8: 1})
        self.assertEqual([is_things_paper(HEAVY, SMALL, (part, size)) for size in HEAVY.sizes], [True, True, False])
        self.assertEqual([is_total_paper(HEAVY, SMALL, (total, size)) for size in HEAVY.sizes], [True, False, False])
        for judge, shown in ((is_things_paper, part), (is_total_paper, total)):
            for value in (
                (shown,), (shown, 1, 1), [shown, 1], (1, shown), (shown, True), (shown, None), (shown, "1"), (shown, (1,)), (shown, 2),
                (shown, 0), (shown, -1), (shown, 8), (shown.counts, 1), (None, 1), (shown - Lot({1: 1}), 1), (shown + Lot({8: 1}), 1),
                (HEAVY, None), (HEAVY, 1), (shown + Lot({1: 1}), 1), (shown + Lot({2: 1}), 1), (shown, 10 ** 230), (shown, [1]),
                (Lot(), None), (Lot(), 1), {shown.number: 1},
            ):
                self.assertIs(judge(HEAVY, SMALL, value), False, value)
            for value in all_values():
                self.assertIs(judge(HEAVY, SMALL, (value, 1)), False)
                self.assertIs(judge(HEAVY, SMALL, (shown, value)), value is not True and value == 1, value)
                self.assertIs(judge(PARCELS, SHELVES, (PARCELS, value)), value is None)
            self.assertIs(judge(PARCELS, SHELVES, (PARCELS,)), False)
            self.assertIs(judge(PARCELS, SHELVES, (PARCELS - Lot({1: 1}), None)), False)

    def test_a_size_that_is_not_in_the_smallest_things(self):
        # The size 8 bars the whole lot, but not the five smallest things, among which it is not.
        lot = Lot({1: 2, 4: 2, 8: 1, 16: 1})
        self.assertEqual([is_things_paper(lot, SMALL, (Lot({1: 2, 4: 2}), size)) for size in lot.sizes], [True, True, False, False])


class TestGreat(unittest.TestCase):
    def test_great_numbers(self):
        for figures in (20, 100, 199):
            great = 10 ** (figures - 1)
            lot = Lot({1: 5 * great, great: 3 * great, 2 * great: 2 * great})
            store = Store((3 * great + 1, great), (great - 1, great))
            # Three things of the great size, or one and a greater one, go to each of the first rooms.
            self.assertEqual((most_things(lot, store), most_total(lot, store)), (8 * great, 3 * great ** 2 + 5 * great))
            self.assertEqual(keep_things(lot, store).counts, {1: 5 * great, great: 3 * great})
            self.assertEqual(keep_total(lot, store).counts, {1: 5 * great, great: great, 2 * great: great})
            for judge, paper in ((is_things_paper, things_paper), (is_total_paper, total_paper)):
                self.assertIs(judge(lot, store, paper(lot, store)), True)
            told = [is_total_paper(lot, store, (keep_things(lot, store), size)) for size in lot.sizes]
            self.assertEqual(told, [False, True, False])
            self.assertIs(is_total_paper(lot, store, (keep_total(lot, store), 2 * great)), False)
            self.assertEqual(keep_all_of(lot, store, (2 * great,)), None)
            self.assertEqual(keep_all_of(lot - Lot({2 * great: great}), store, (2 * great,)).number, 7 * great)
            self.assertIs(is_kept_total(lot, store, Lot({1: 5 * great, great: 3 * great})), True)

    def test_longest_numbers(self):
        lot, store = Lot({LONGEST: LONGEST}), Store((LONGEST, LONGEST - 1))
        self.assertEqual((most_things(lot, store), most_total(lot, store)), (LONGEST - 1, LONGEST * (LONGEST - 1)))
        self.assertEqual(things_paper(lot, store), (Lot({LONGEST: LONGEST - 1}), LONGEST))
        self.assertEqual(total_paper(lot, store), (Lot({LONGEST: LONGEST - 1}), LONGEST))

    def test_more_things_than_an_integer_has(self):
        # There are so many things that their number has 201 digits.
        lot, store = Lot({1: LONGEST, 2: LONGEST, 4: LONGEST}), Store((3, LONGEST))
        self.assertEqual((most_things(lot, store), most_total(lot, store)), (2 * LONGEST, 3 * LONGEST))
        for judge, paper in ((is_things_paper, things_paper), (is_total_paper, total_paper)):
            self.assertIs(judge(lot, store, paper(lot, store)), True)
        part = Lot({1: LONGEST, 2: LONGEST})
        self.assertEqual([is_things_paper(lot, store, (part, size)) for size in (1, 2, 4, None)], [True, True, True, False])
        self.assertEqual(keep_all_of(lot, store, (2,)), part)

    def test_twelve_sizes_and_forty_runs(self):
        store = Store(*[(3000 + 97 * at % 41, 2 + at) for at in range(40)])
        lot = Lot({2 ** k: 4000 + 11 * k for k in range(12)})
        self.assertIs(fits(lot, store), False)
        self.assertIs(is_things_paper(lot, store, things_paper(lot, store)), True)
        self.assertIs(is_total_paper(lot, store, total_paper(lot, store)), True)


class TestWrongInputs(unittest.TestCase):
    def test_lots(self):
        for value in not_lots():
            for call in PLAIN:
                self.assertEqual(raised(call, value, None), (InvalidLot, None))
            for call in JUDGES + (keep_all_of,):
                self.assertEqual(raised(call, value, None, None), (InvalidLot, None))

    def test_stores(self):
        for lot in (PARCELS, Lot(), Lot({2: 1, 3: 1})):
            for value in not_stores():
                for call in PLAIN:
                    self.assertEqual(raised(call, lot, value), (InvalidStore, None))
                for call in JUDGES + (keep_all_of,):
                    self.assertEqual(raised(call, lot, value, None), (InvalidStore, None))

    def test_sizes(self):
        chained, other = Lot({1: 5, 2: 3, 6: 4}), Lot({1: 1, 2: 1, 3: 1})
        for value in all_values():
            for lot in (chained, other):
                if value not in ((), (1,), (1, 2)):
                    self.assertEqual(raised(keep_all_of, lot, SHELVES, value), (InvalidOperation, None))
        for value in ((2, 1), (1, 1), (4,), (1, 2, 6, 12), (0,), (True,), (True, 2), (1, True), (None,), ((1,),), [1], (1, [2]), (1, "2")):
            for lot in (chained, other):
                self.assertEqual(raised(keep_all_of, lot, SHELVES, value), (InvalidOperation, None))
        self.assertEqual(raised(keep_all_of, Lot(), SHELVES, (1,)), (InvalidOperation, None))

    def test_lots_that_are_not_chained(self):
        for sizes, gap in not_chains():
            lot = Lot({size: 1 for size in sizes})
            for store in (Store(), SHELVES):
                self.assertEqual([raised(call, lot, store) for call in PLAIN], [(NoChain, gap)] * 6)
                self.assertEqual([raised(call, lot, store, None) for call in JUDGES], [(NoChain, gap)] * 4)
                # The sizes that are told can be a chain.
                self.assertEqual([raised(keep_all_of, lot, store, told) for told in ((), sizes[:1], sizes)], [(NoChain, gap)] * 3)

    def test_nothing_changes(self):
        lot, store = Lot({1: 2, 4: 2, 8: 2}), Store((9, 1), (4, 1))
        for call in PLAIN:
            self.assertEqual(call(lot, store), call(lot, store))
        self.assertEqual((lot, store), (HEAVY, SMALL))


if __name__ == "__main__":
    unittest.main()
