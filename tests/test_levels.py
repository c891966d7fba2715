"""Stage 7: what fits, with the promises 0.1 to 0.8, 0.11 to 0.13, 0.18, 0.19 and 7.1 as far as it needs them."""

import itertools
import unittest

from chainpacks.decide.levels import barring_sizes, fit_paper, fits, is_fit_paper, levels_of, more_rooms, spare
from chainpacks.errors import InvalidLot, InvalidNumber, InvalidStore, NoChain
from chainpacks.pack.packings import Packing, is_packing_of
from chainpacks.pack.rules import RULES, pack
from chainpacks.things.lots import Lot
from chainpacks.things.stores import Store
from walks import all_holds, all_rows, all_things, can_fit, lot_of_things, packing_of, store_of
from wrong_values import LONGEST, all_values, not_chains, not_lots, not_size_values, not_stores, raised

PARCELS = Lot({1: 5, 2: 3, 6: 4})
SHELVES = Store((10, 2), (7, 3))
FUNCTIONS = (levels_of, fits, barring_sizes, fit_paper)
CHAINS = [(1, 2, 4), (2, 6), (1, 3), (3,)]


def small_pairs(most):
    """Things and rooms of all small chained lots and small stores."""
    for sizes in CHAINS:
        rows = [row for row in all_rows((1, 3, 6, 7), 3) if list(row) == sorted(row) or row[0] == 7]
        yield from itertools.product(all_things(sizes, most), rows)


def two_thousand_runs(lot, store):
    """A packing of a lot of ones in a store of twos, with as many runs as a packing can have."""
    return Packing(*[(2, 1, ((1, 1),) if at % 2 else ((1, 2),)) for at in range(lot.number * 2 // 3)])


class TestExamples(unittest.TestCase):
    def test_first_example(self):
        told = [
            levels_of(PARCELS, SHELVES), fits(PARCELS, SHELVES), [spare(PARCELS, SHELVES, size) for size in (1, 2, 6, 12)],
            fits(Lot({6: 6}), SHELVES),
        ]
        self.assertEqual(told, [((1, 35, 41), (2, 15, 19), (6, 4, 5)), True, [6, 3, 1, 0], False])

    def test_second_example(self):
        told = [
            barring_sizes(Lot({1: 20, 6: 6}), SHELVES), more_rooms(Lot({6: 9}), SHELVES, 13),
            more_rooms(Lot({12: 1}), SHELVES, 11), fit_paper(Lot({6: 6}), SHELVES),
        ]
        self.assertEqual(told, [(1, 6), 2, None, ("barred", 6)])

    def test_third_example(self):
        packed = Packing((10, 2, ((2, 1), (6, 1))), (7, 2, ((1, 1), (6, 1))), (7, 1, ((1, 3), (2, 1))))
        told = [
            is_fit_paper(PARCELS, SHELVES, ("packed", packed)), fit_paper(PARCELS, SHELVES)[0], fits(Lot({}), Store()),
            spare(Lot({6: 6}), SHELVES, 1),
        ]
        self.assertEqual(told, [True, "packed", True, None])

    def test_fourth_example(self):
        self.assertEqual(raised(spare, PARCELS, SHELVES, 3), (NoChain, (2, 3)))

    def test_what_the_document_tells_of_its_values(self):
        self.assertEqual((PARCELS.total, SHELVES.total, Lot({6: 6}).total), (35, 41, 36))
        self.assertEqual(fit_paper(Lot({6: 6}), SHELVES), ("barred", 6))


class TestSmall(unittest.TestCase):
    """Small lots and stores against looks at all packings."""

    def test_levels(self):
        for things, rooms in small_pairs(4):
            lot, store = lot_of_things(things), store_of(rooms)
            told = tuple(
                (size, sum(thing for thing in things if thing >= size) // size, sum(room // size for room in rooms))
                for size in sorted(set(things))
            )
            self.assertEqual(levels_of(lot, store), told)
            self.assertEqual(barring_sizes(lot, store), tuple(size for size, needed, given in told if needed > given))

    def test_fits(self):
        for things, rooms in small_pairs(6):
            lot, store = lot_of_things(things), store_of(rooms)
            fit = can_fit(things, rooms)
            self.assertIs(fits(lot, store), fit)
            self.assertIs(fits(lot, store.backward()), fit)
            self.assertIs(barring_sizes(lot, store) == (), fit)
            self.assertEqual([len(pack(lot, store, rule=rule)[1]) == 0 for rule in RULES], [fit] * 3)

    def test_papers(self):
        for things, rooms in small_pairs(6):
            lot, store = lot_of_things(things), store_of(rooms)
            paper = fit_paper(lot, store)
            self.assertIs(is_fit_paper(lot, store, paper), True)
            if fits(lot, store):
                self.assertEqual((paper[0], len(paper)), ("packed", 2))
                self.assertIs(is_packing_of(lot, store, paper[1]), True)
            else:
                self.assertEqual((paper[0], len(paper), paper[1] in barring_sizes(lot, store)), ("barred", 2, True))
            for size in range(8):
                self.assertIs(is_fit_paper(lot, store, ("barred", size)), size in barring_sizes(lot, store))

    def test_every_packing_is_a_paper(self):
        for things, rooms in itertools.product(all_things((1, 2, 4), 4), [(3, 4), (4, 3), (2, 2, 5), (4, 4)]):
            lot, store = lot_of_things(things), store_of(rooms)
            for holds in all_holds(things, rooms):
                self.assertIs(is_fit_paper(lot, store, ("packed", packing_of(rooms, holds))), True)
                self.assertIs(is_fit_paper(lot, store, ("packed", packing_of(rooms, holds).joined(Packing((9, 1, ()))))), False)
                if things:
                    self.assertIs(is_fit_paper(lot - Lot({things[0]: 1}), store, ("packed", packing_of(rooms, holds))), False)

    def test_spare(self):
        for things, rooms in small_pairs(4):
            lot, store = lot_of_things(things), store_of(rooms)
            for size in (1, 2, 3, 4, 6, 12):
                together = sorted(set(things + (size,)))
                gaps = [pair for pair in zip(together, together[1:]) if pair[1] % pair[0]]
                if gaps:
                    self.assertEqual(raised(spare, lot, store, size), (NoChain, gaps[0]))
                elif not can_fit(things, rooms):
                    self.assertIsNone(spare(lot, store, size))
                else:
                    number = 0
                    while can_fit(things + (size,) * (number + 1), rooms):
                        number += 1
                    self.assertEqual(spare(lot, store, size), number)

    def test_more_rooms(self):
        for things, rooms in small_pairs(4):
            lot, store = lot_of_things(things), store_of(rooms)
            for room in (1, 2, 3, 5, 6, 13):
                told = [number for number in range(len(things) + 1) if can_fit(things, rooms + (room,) * number)]
                # A room for each thing is enough if a room can be enough at all.
                self.assertEqual(more_rooms(lot, store, room), told[0] if told else None)


class TestEdges(unittest.TestCase):
    def test_nothing_and_no_rooms(self):
        for store in (Store(), SHELVES):
            self.assertEqual((levels_of(Lot(), store), fits(Lot(), store), barring_sizes(Lot(), store)), ((), True, ()))
            self.assertEqual(more_rooms(Lot(), store, 1), 0)
        self.assertEqual(fit_paper(Lot(), Store()), ("packed", Packing()))
        self.assertEqual((spare(Lot(), Store(), 5), spare(Lot(), SHELVES, 5), spare(Lot(), SHELVES, 11)), (0, 7, 0))
        self.assertEqual(levels_of(PARCELS, Store()), ((1, 35, 0), (2, 15, 0), (6, 4, 0)))
        self.assertEqual((spare(PARCELS, Store(), 6), more_rooms(PARCELS, Store(), 7)), (None, 5))
        self.assertIs(is_fit_paper(PARCELS, Store(), ("barred", 1)), True)

    def test_no_space_left_and_a_thing_more(self):
        full = Lot({1: 11, 6: 5})
        self.assertEqual((fits(full, SHELVES), barring_sizes(full, SHELVES)), (True, ()))
        self.assertEqual([spare(full, SHELVES, size) for size in (1, 2, 3, 6, 12)], [0] * 5)
        self.assertEqual(fit_paper(full, SHELVES)[1].left, 0)
        self.assertEqual(barring_sizes(full + Lot({1: 1}), SHELVES), (1,))
        self.assertEqual(barring_sizes(full + Lot({6: 1}), SHELVES), (1, 6))
        self.assertEqual(more_rooms(full + Lot({1: 1}), SHELVES, 1), 1)

    def test_rooms_that_no_size_divides(self):
        self.assertEqual(levels_of(Lot({4: 3, 8: 1}), Store((7, 3), (13, 1))), ((4, 5, 6), (8, 1, 1)))
        self.assertIs(fits(Lot({4: 4, 8: 1}), Store((7, 3), (13, 1))), True)
        self.assertIs(fits(Lot({4: 5, 8: 1}), Store((7, 3), (13, 1))), False)

    def test_the_size_that_is_told(self):
        lot, store = Lot({2: 3, 12: 1}), Store((13, 1), (9, 2))
        # The least, the greatest, a link between two, sizes beyond both ends, and one that goes not with the others.
        self.assertEqual([spare(lot, store, size) for size in (2, 12, 4, 6, 1, 24)], [5, 0, 2, 1, 13, 0])
        self.assertEqual(raised(spare, lot, store, 3), (NoChain, (2, 3)))
        self.assertEqual(raised(spare, lot, store, 8), (NoChain, (8, 12)))
        self.assertEqual(raised(spare, lot, store, 13), (NoChain, (12, 13)))

    def test_thirteen_sizes_together(self):
        lot = Lot({2 ** k: 1 for k in range(12)})
        self.assertEqual(spare(lot, Store((4096, 1)), 4096), 0)
        self.assertEqual(spare(lot, Store((4096, 3)), 4096), 2)
        self.assertEqual(raised(spare, lot, Store((4096, 3)), 4097), (NoChain, (2048, 4097)))

    def test_a_room_need_not_go_with_the_sizes(self):
        self.assertEqual([more_rooms(PARCELS * 2, SHELVES, room) for room in (6, 7, 8, 11, 12, 13)], [5, 5, 4, 3, 3, 3])
        self.assertEqual([more_rooms(Lot({1: 50}), SHELVES, room) for room in (1, 4, 9, 10)], [9, 3, 1, 1])
        self.assertEqual([more_rooms(Lot({1: 45, 12: 1}), SHELVES, room) for room in (11, 12, 16)], [None, 2, 1])

    def test_papers_that_are_none(self):
        packing = fit_paper(PARCELS, SHELVES)[1]
        for value in (
            packing, ("packed",), ("packed", packing, packing), ["packed", packing], ("barred", packing), ("barred", 1),
            ("packed", packing.runs), ("packed", packing.backward()), ("Packed", packing), (packing, "packed"), (None, packing),
            ("packed", None), ("packed", PARCELS), ("packed", SHELVES), ("packed", packing.moved(2, 0, 6)
             if packing.left_at(0) >= 6 else None), ("packed", Packing()), (("packed", packing),), ((), packing),
        ):
            self.assertIs(is_fit_paper(PARCELS, SHELVES, value), False)
        barred = Lot({1: 50, 6: 6})
        for value in (
            ("barred", True), ("barred", 6, 6), ("barred",), ["barred", 6], ("barred", "6"), ("barred", (6,)), ("barred", 2),
            ("barred", -6), ("Barred", 6), (6, "barred"), ("packed", 6), 6, "barred 6", ("barred", None), ("barred", 10 ** 210),
        ):
            self.assertIs(is_fit_paper(barred, SHELVES, value), False)
        self.assertEqual([is_fit_paper(barred, SHELVES, ("barred", size)) for size in (1, 6)], [True, True])
        for value in all_values():
            self.assertIs(is_fit_paper(PARCELS, SHELVES, value), False)
            self.assertIs(is_fit_paper(barred, SHELVES, value), False)
            self.assertIs(is_fit_paper(PARCELS, SHELVES, ("packed", value)), False)
            self.assertIs(is_fit_paper(barred, SHELVES, ("barred", value)), value is not True and value == 1)

    def test_papers_of_many_runs(self):
        lot, store = Lot({1: 3000}), Store((2, 2000))
        packing = two_thousand_runs(lot, store)
        self.assertEqual(len(packing), 2000)
        self.assertIs(is_fit_paper(lot, store, ("packed", packing)), True)
        self.assertLessEqual(len(fit_paper(lot, store)[1]), 500)
        self.assertIs(is_fit_paper(lot + Lot({1: 1}), store, ("packed", packing)), False)

    def test_a_packing_too_great_for_a_lot(self):
        packing = Packing((LONGEST, LONGEST, ((1, LONGEST),)))
        self.assertIs(is_fit_paper(PARCELS, SHELVES, ("packed", packing)), False)


class TestGreat(unittest.TestCase):
    def test_great_numbers(self):
        for figures in (20, 100, 199):
            great = 10 ** (figures - 1)
            lot = Lot({1: great, great: 3 * great, 2 * great: 2 * great})
            store = Store((7 * great + 1, great), (great - 1, great))
            self.assertEqual(levels_of(lot, store), (
                (1, great + 7 * great ** 2, 8 * great ** 2), (great, 7 * great, 7 * great), (2 * great, 2 * great, 3 * great),
            ))
            self.assertIs(fits(lot, store), True)
            self.assertEqual([spare(lot, store, size) for size in (1, great, 2 * great)], [great ** 2 - great, 0, 0])
            paper = fit_paper(lot, store)
            self.assertIs(is_fit_paper(lot, store, paper), True)
            self.assertLessEqual(len(paper[1]), 500)
            more = lot + Lot({great: 4})
            self.assertEqual(fit_paper(more, store), ("barred", great))
            self.assertEqual([more_rooms(more, store, room) for room in (great - 1, great, 3 * great, 4 * great)], [None, 4, 2, 1])
            self.assertEqual(spare(Lot({2 * great: great}), store, great), 5 * great)
            self.assertEqual(spare(Lot({2 * great: great}), store, 4 * great), great)

    def test_longest_numbers(self):
        lot, store = Lot({LONGEST: LONGEST}), Store((LONGEST, LONGEST))
        self.assertEqual(levels_of(lot, store), ((LONGEST, LONGEST, LONGEST),))
        self.assertEqual((fits(lot, store), spare(lot, store, 1), spare(lot, store, LONGEST)), (True, 0, 0))
        self.assertEqual(spare(Lot(), store, 1), LONGEST ** 2)
        self.assertEqual(more_rooms(lot, Store(), LONGEST), LONGEST)
        self.assertEqual(more_rooms(lot, Store((LONGEST, 1)), LONGEST), LONGEST - 1)

    def test_twelve_sizes_and_forty_runs(self):
        store = Store(*[(3000 + 97 * at % 41, 2 + at) for at in range(40)])
        lot = Lot({2 ** k: 40 + 11 * k for k in range(12)})
        paper = fit_paper(lot, store)
        self.assertEqual((paper[0], is_fit_paper(lot, store, paper)), ("packed", True))
        self.assertLessEqual(len(paper[1]), 500)
        for size in lot.sizes:
            number = spare(lot, store, size)
            self.assertIs(fits(lot + Lot({size: number}), store), True)
            self.assertIs(fits(lot + Lot({size: number + 1}), store), False)


class TestWrongInputs(unittest.TestCase):
    def test_lots(self):
        for value in not_lots():
            for call in FUNCTIONS:
                self.assertEqual(raised(call, value, None), (InvalidLot, None))
            for call in (spare, more_rooms, is_fit_paper):
                self.assertEqual(raised(call, value, None, 0), (InvalidLot, None))

    def test_stores(self):
        other = Lot({2: 1, 3: 1})
        for value in not_stores():
            for call in FUNCTIONS:
                self.assertEqual(raised(call, other, value), (InvalidStore, None))
            for call in (spare, more_rooms, is_fit_paper):
                self.assertEqual(raised(call, other, value, 0), (InvalidStore, None))

    def test_sizes_and_rooms(self):
        other = Lot({2: 1, 3: 1})
        for value in not_size_values():
            for call in (spare, more_rooms):
                for lot in (PARCELS, other):
                    kind, kept = raised(call, lot, SHELVES, value)
                    self.assertIs(kind, InvalidNumber)
                    self.assertIs(kept, value)

    def test_lots_that_are_not_chained(self):
        for sizes, gap in not_chains():
            lot = Lot({size: 1 for size in sizes})
            for call in FUNCTIONS:
                self.assertEqual(raised(call, lot, SHELVES), (NoChain, gap))
            self.assertEqual(raised(more_rooms, lot, SHELVES, 5), (NoChain, gap))
            self.assertEqual(raised(is_fit_paper, lot, SHELVES, None), (NoChain, gap))
            self.assertEqual(raised(spare, lot, SHELVES, sizes[0]), (NoChain, gap))
        # The gap is told of all sizes together.
        self.assertEqual(raised(spare, Lot({4: 1, 6: 1}), SHELVES, 3), (NoChain, (3, 4)))
        self.assertEqual(raised(spare, Lot({4: 1, 6: 1}), SHELVES, 5), (NoChain, (4, 5)))

    def test_nothing_changes(self):
        lot, store = Lot({1: 5, 2: 3, 6: 4}), Store((10, 2), (7, 3))
        for call in FUNCTIONS:
            self.assertEqual(call(lot, store), call(lot, store))
        self.assertEqual([spare(lot, store, 2), more_rooms(lot * 3, store, 7), spare(lot, store, 2)], [3, 10, 3])
        self.assertEqual((lot, store), (PARCELS, SHELVES))


if __name__ == "__main__":
    unittest.main()
