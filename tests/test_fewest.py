"""Stage 10: fewest rooms and least loads, with the promises 0.1 to 0.6, 0.10 to 0.12, 0.18 and 10.1."""

import itertools
import unittest

from chainpacks.decide.fewest import (
    cap_paper, fewest_of, fewest_rooms, is_cap_paper, is_rooms_paper, least_cap, least_room, rooms_paper,
)
from chainpacks.decide.levels import barring_sizes, fits
from chainpacks.errors import InvalidLot, InvalidNumber, InvalidOperation, InvalidStore, NoChain, NoRoom
from chainpacks.pack.packings import Packing, is_packing_of
from chainpacks.things.lots import Lot
from chainpacks.things.stores import Store
from walks import all_holds, all_rows, all_things, can_fit, lot_of_things, packing_of, store_of
from wrong_values import (
    LONGEST, all_values, not_chains, not_lots, not_packings, not_size_values, not_stores, raised,
)

PARCELS = Lot({1: 5, 2: 3, 6: 4})
SHELVES = Store((10, 2), (7, 3))
SHOWN = Packing((10, 2, ((1, 1), (6, 1))), (7, 2, ((1, 1), (6, 1))), (7, 1, ((1, 1), (2, 3))))
CHAINS = [(1, 2, 4), (2, 6), (1, 3), (3,)]
ROWS = [(), (1,), (3,), (7,), (1, 3), (7, 3), (6, 7), (7, 1, 6), (6, 6, 3), (3, 6, 7), (7, 3, 7), (3, 3, 3), (1, 1, 6), (6, 3, 6, 3)]
OF_STORES = (fewest_of, least_cap, rooms_paper, cap_paper)
JUDGES = (is_rooms_paper, is_cap_paper)


def small_pairs(most):
    """Things and rooms of small chained lots and small stores."""
    for sizes in CHAINS:
        yield from itertools.product(all_things(sizes, most), ROWS)


def loads_of(packing):
    """The loads of the runs of a packing."""
    return [sum(size * count for size, count in filling) for _, _, filling in packing.runs]


def used_rooms(packing):
    """How many rooms of a packing have things."""
    return sum(many for _, many, filling in packing.runs if filling)


def bars_greatest(things, rooms, number, size):
    """Whether so many of the greatest rooms have too few units at a size of the things."""
    if size not in things or number < 0:
        return False
    needed = sum(thing for thing in things if thing >= size) // size
    return needed > sum(room // size for room in sorted(rooms, reverse=True)[:number])


def bars_capped(things, rooms, cap, size):
    """Whether the rooms that are cut down to a cap have too few units at a size of the things."""
    if size not in things or cap < 0:
        return False
    needed = sum(thing for thing in things if thing >= size) // size
    return needed > sum(min(room, cap) // size for room in rooms)


class TestExamples(unittest.TestCase):
    def test_first_example(self):
        told = [
            fewest_rooms(PARCELS, 10), fewest_rooms(PARCELS, 6), least_room(PARCELS, 5), least_room(PARCELS, 2),
            fewest_rooms(PARCELS * 10 ** 30, 7),
        ]
        self.assertEqual(told, [4, 6, 7, 18, 5000000000000000000000000000000])

    def test_second_example(self):
        told = [
            fewest_of(PARCELS, SHELVES), least_cap(PARCELS, SHELVES), fewest_of(Lot({6: 2, 1: 1}), SHELVES),
            least_cap(Lot({6: 2, 1: 1}), SHELVES),
        ]
        self.assertEqual(told, [5, 7, 2, 6])

    def test_third_example(self):
        told = [
            is_cap_paper(PARCELS, SHELVES, (7, SHOWN, 1)), is_cap_paper(PARCELS, SHELVES, (7, SHOWN, 2)),
            is_rooms_paper(PARCELS, SHELVES, (5, SHOWN, 1)),
        ]
        self.assertEqual(told, [True, False, True])


class TestSmall(unittest.TestCase):
    """Small lots and stores against trying one number after the other."""

    def test_equal_rooms(self):
        for sizes in CHAINS:
            for things in all_things(sizes, 5):
                lot = lot_of_things(things)
                for room in range(1, 14):
                    if things and room < things[-1]:
                        self.assertEqual(raised(fewest_rooms, lot, room), (NoRoom, things[-1]))
                    else:
                        told = next(number for number in itertools.count() if can_fit(things, (room,) * number))
                        self.assertEqual(fewest_rooms(lot, room), told)
                for rooms in range(1, 5):
                    told = next(room for room in itertools.count() if can_fit(things, (room,) * rooms))
                    self.assertEqual(least_room(lot, rooms), told)

    def test_stores(self):
        for things, rooms in small_pairs(5):
            lot, store = lot_of_things(things), store_of(rooms)
            if not can_fit(things, rooms):
                barred = (NoRoom, barring_sizes(lot, store)[-1])
                self.assertEqual([raised(call, lot, store) for call in OF_STORES], [barred] * 4)
                continue
            numbers = [
                number for number in range(len(rooms) + 1)
                if any(can_fit(things, chosen) for chosen in itertools.combinations(rooms, number))
            ]
            self.assertEqual(fewest_of(lot, store), numbers[0])
            caps = [cap for cap in range(8) if can_fit(things, [min(cap, room) for room in rooms])]
            self.assertEqual(least_cap(lot, store), caps[0])
            if things:
                self.assertIs(fits(lot, store.capped(caps[0])), True)

    def test_papers(self):
        for things, rooms in small_pairs(5):
            lot, store = lot_of_things(things), store_of(rooms)
            if not things:
                self.assertEqual(raised(rooms_paper, lot, store), (InvalidOperation, None))
                self.assertEqual(raised(cap_paper, lot, store), (InvalidOperation, None))
            elif can_fit(things, rooms):
                number, packing, size = rooms_paper(lot, store)
                self.assertEqual((number, used_rooms(packing)), (fewest_of(lot, store), number))
                self.assertIs(is_packing_of(lot, store, packing), True)
                self.assertIs(bars_greatest(things, rooms, number - 1, size), True)
                self.assertIs(is_rooms_paper(lot, store, (number, packing, size)), True)
                cap, packing, size = cap_paper(lot, store)
                self.assertEqual((cap, max(loads_of(packing)) <= cap), (least_cap(lot, store), True))
                self.assertIs(is_packing_of(lot, store, packing), True)
                self.assertIs(bars_capped(things, rooms, cap - 1, size), True)
                self.assertIs(is_cap_paper(lot, store, (cap, packing, size)), True)

    def test_every_packing_with_every_number_and_size(self):
        for things, rooms in itertools.product(all_things((1, 2, 4), 4), [(3, 4), (4, 3), (2, 2, 5), (4, 4), (1, 6, 1)]):
            lot, store = lot_of_things(things), store_of(rooms)
            for holds in all_holds(things, rooms)[:12]:
                packing = packing_of(rooms, holds)
                used = sum(1 for held in holds if held)
                greatest = max(sum(held) for held in holds)
                for number, size in itertools.product(range(-1, 8), (0, 1, 2, 3, 4, 8)):
                    good = number == used and bars_greatest(things, rooms, number - 1, size)
                    self.assertIs(is_rooms_paper(lot, store, (number, packing, size)), good)
                    good = number >= greatest and bars_capped(things, rooms, number - 1, size)
                    self.assertIs(is_cap_paper(lot, store, (number, packing, size)), good)


class TestEdges(unittest.TestCase):
    def test_nothing_and_no_rooms(self):
        self.assertEqual([fewest_rooms(Lot(), 1), least_room(Lot(), 1), least_room(Lot(), LONGEST)], [0, 0, 0])
        for store in (Store(), SHELVES):
            self.assertEqual((fewest_of(Lot(), store), least_cap(Lot(), store)), (0, 0))
            for call in (rooms_paper, cap_paper):
                self.assertEqual(raised(call, Lot(), store), (InvalidOperation, None))
            packing = Packing(*[(room, many, ()) for room, many in store.runs])
            for number, size in itertools.product((0, 1), (0, 1, None)):
                self.assertIs(is_rooms_paper(Lot(), store, (number, packing, size)), False)
                self.assertIs(is_cap_paper(Lot(), store, (number, packing, size)), False)
        for call in OF_STORES:
            self.assertEqual(raised(call, PARCELS, Store()), (NoRoom, 6))
        self.assertEqual(least_room(PARCELS, LONGEST), 6)

    def test_just_enough_and_a_thing_more(self):
        full = Lot({1: 11, 6: 5})
        self.assertEqual((fewest_of(full, SHELVES), least_cap(full, SHELVES)), (5, 10))
        for call in OF_STORES:
            self.assertEqual(raised(call, full + Lot({1: 1}), SHELVES), (NoRoom, 1))
            self.assertEqual(raised(call, full + Lot({6: 1}), SHELVES), (NoRoom, 6))
            self.assertEqual(raised(call, full + Lot({12: 1}), SHELVES), (NoRoom, 12))
        self.assertEqual((fewest_rooms(Lot({1: 12, 6: 2}), 12), fewest_rooms(Lot({1: 13, 6: 2}), 12)), (2, 3))
        self.assertEqual((least_room(Lot({1: 12, 6: 2}), 2), least_room(Lot({1: 13, 6: 2}), 2)), (12, 13))
        self.assertEqual(raised(fewest_rooms, Lot({1: 12, 6: 2}), 5), (NoRoom, 6))

    def test_rooms_out_of_the_middle_of_a_run(self):
        store = Store((3, 2), (8, 3), (2, 1), (8, 4), (9, 1))
        lot = Lot({1: 5, 4: 8})
        number, packing, size = rooms_paper(lot, store)
        self.assertEqual((number, is_rooms_paper(lot, store, (number, packing, size))), (5, True))
        self.assertEqual(sum(room * many for room, many, filling in packing.runs if filling), 9 + 4 * 8)
        middle = Packing(
            (3, 2, ()), (8, 1, ()), (8, 1, ((4, 2),)), (8, 1, ((1, 4), (4, 1))), (2, 1, ()), (8, 1, ()), (8, 2, ((4, 2),)), (8, 1, ()),
            (9, 1, ((1, 1), (4, 1))),
        )
        self.assertEqual(middle.lot, Lot({1: 5, 4: 8}))
        self.assertIs(is_rooms_paper(lot, store, (5, middle, 1)), True)
        self.assertIs(is_rooms_paper(lot, store, (5, middle, 4)), False)
        self.assertIs(is_rooms_paper(lot, store, (4, middle, 1)), False)

    def test_caps_less_than_the_least_room_and_between_rooms(self):
        store = Store((10, 1), (4, 2), (7, 1))
        for lot, cap in (
            (Lot({1: 1}), 1), (Lot({1: 9}), 3), (Lot({1: 16}), 4), (Lot({1: 17}), 5), (Lot({1: 19}), 6), (Lot({1: 22}), 7),
            (Lot({1: 23}), 8), (Lot({1: 25}), 10), (Lot({3: 1}), 3), (Lot({3: 5}), 6), (Lot({3: 6}), 6), (Lot({3: 7}), 9),
            (Lot({1: 4, 3: 6}), 7), (Lot({6: 1}), 6), (Lot({1: 10, 6: 2}), 7),
        ):
            self.assertEqual(least_cap(lot, store), cap, lot.counts)
            paper = cap_paper(lot, store)
            self.assertEqual((paper[0], is_cap_paper(lot, store, paper)), (cap, True))
            self.assertIs(fits(lot, store.capped(cap)), True)
            if cap > 1:
                self.assertIs(fits(lot, store.capped(cap - 1)), False)

    def test_a_cap_of_one(self):
        lot, store = Lot({1: 2}), Store((5, 3))
        packing = Packing((5, 2, ((1, 1),)), (5, 1, ()))
        self.assertEqual(least_cap(lot, store), 1)
        self.assertIs(is_cap_paper(lot, store, (1, packing, 1)), True)
        self.assertIs(is_cap_paper(lot, store, (True, packing, 1)), False)
        self.assertIs(is_cap_paper(lot, store, (1, packing, True)), False)
        self.assertIs(is_cap_paper(lot, store, (2, packing, 1)), False)
        one = Packing((5, 1, ((1, 2),)), (5, 2, ()))
        self.assertIs(is_rooms_paper(lot, store, (1, one, 1)), True)
        self.assertIs(is_rooms_paper(lot, store, (True, one, 1)), False)
        self.assertIs(is_rooms_paper(lot, store, (1, one, True)), False)
        self.assertIs(is_rooms_paper(lot, store, (2, packing, 1)), False)

    def test_forty_runs_of_stores(self):
        store = Store(*[(10 + at % 7, 3 + at) for at in range(40)])
        self.assertEqual(len(store), 40)
        for lot in (Lot({1: 100, 5: 200}), Lot({2: 900, 6: 50, 12: 40}), Lot({1: store.total}), Lot({1: 1})):
            paper = rooms_paper(lot, store)
            self.assertIs(is_rooms_paper(lot, store, paper), True)
            self.assertEqual(paper[0], fewest_of(lot, store))
            paper = cap_paper(lot, store)
            self.assertIs(is_cap_paper(lot, store, paper), True)
            self.assertEqual(paper[0], least_cap(lot, store))

    def test_values_that_are_no_papers(self):
        good_rooms, good_cap = (5, SHOWN, 1), (7, SHOWN, 1)
        self.assertEqual([is_rooms_paper(PARCELS, SHELVES, good_rooms), is_cap_paper(PARCELS, SHELVES, good_cap)], [True, True])
        turned = SHOWN.backward()
        for judge, number in ((is_rooms_paper, 5), (is_cap_paper, 7)):
            for value in (
                (number, SHOWN), (number, SHOWN, 1, 1), [number, SHOWN, 1], (number + 1, SHOWN, 1), (number - 1, SHOWN, 1),
                (number, SHOWN, 6), (number, SHOWN, 2), (number, SHOWN, 3), (number, SHOWN, 0), (number, SHOWN, -1), (number, SHOWN, "1"),
                (number, turned, 1), (number, SHOWN.runs, 1), (str(number), SHOWN, 1), (1, SHOWN, number), (number, Packing(), 1),
                (number, None, 1), (None, SHOWN, 1), (number, SHOWN, None), (number, SHOWN.joined(Packing((1, 1, ()))), 1), (-number, SHOWN, 1),
                (number, PARCELS, 1), (number, SHELVES, 1), ((number, SHOWN, 1),), (number, SHOWN, (1,)), (10 ** 220, SHOWN, 1),
                (number, SHOWN, 10 ** 220), (number, Packing((10, 2, ()), (7, 3, ())), 1), {number: SHOWN},
            ):
                self.assertIs(judge(PARCELS, SHELVES, value), False, value)
            for value in all_values():
                self.assertIs(judge(PARCELS, SHELVES, value), False)
                self.assertIs(judge(PARCELS, SHELVES, (value, SHOWN, 1)), False)
                self.assertIs(judge(PARCELS, SHELVES, (number, SHOWN, value)), value is not True and value == 1)
            for value in not_packings():
                self.assertIs(judge(PARCELS, SHELVES, (number, value, 1)), False)
            self.assertIs(judge(PARCELS + Lot({1: 1}), SHELVES, (number, SHOWN, 1)), False)
            self.assertIs(judge(Lot({6: 6}), SHELVES, (number, SHOWN, 6)), False)
        great = Packing((LONGEST, LONGEST, ((1, LONGEST),)))
        self.assertEqual([judge(PARCELS, SHELVES, (5, great, 1)) for judge in JUDGES], [False, False])


class TestGreat(unittest.TestCase):
    def test_great_numbers(self):
        for figures in (20, 100, 199):
            great = 10 ** (figures - 1)
            lot = Lot({1: great, great: 3 * great, 2 * great: 2 * great})
            self.assertEqual(fewest_rooms(lot, 2 * great), 3 * great + great // 2 + 1)
            self.assertEqual(least_room(lot, great), 7 * great + 1)
            self.assertEqual(least_room(lot, LONGEST), 2 * great)
            store = Store((7 * great + 1, great), (great - 1, great), (5 * great, great))
            # Rooms of five times the great number have one thing of this size more if they have more than four of it.
            self.assertEqual((fewest_of(lot, store), least_cap(lot, store)), (great, 4 * great))
            for judge, paper in ((is_rooms_paper, rooms_paper), (is_cap_paper, cap_paper)):
                told = paper(lot, store)
                self.assertIs(judge(lot, store, told), True)
                self.assertIs(judge(lot, store, (told[0] + 1,) + told[1:]), False)
                self.assertIs(judge(lot, store, (told[0] - 1,) + told[1:]), False)
            self.assertEqual(raised(fewest_rooms, lot, 2 * great - 1), (NoRoom, 2 * great))

    def test_longest_numbers(self):
        lot, store = Lot({LONGEST: LONGEST}), Store((LONGEST, LONGEST))
        self.assertEqual((fewest_rooms(lot, LONGEST), least_room(lot, 1)), (LONGEST, LONGEST ** 2))
        self.assertEqual((fewest_of(lot, store), least_cap(lot, store)), (LONGEST, LONGEST))
        for judge, paper in ((is_rooms_paper, rooms_paper), (is_cap_paper, cap_paper)):
            self.assertIs(judge(lot, store, paper(lot, store)), True)
        self.assertEqual(least_room(Lot({1: 1}), LONGEST), 1)
        ones = Lot({1: LONGEST, 3: LONGEST})
        self.assertEqual(fewest_rooms(ones, LONGEST), 4)
        self.assertEqual((fewest_of(ones, Store((LONGEST, 5))), least_cap(ones, Store((LONGEST, 4)))), (4, LONGEST))

    def test_more_rooms_than_an_integer_has(self):
        # Two runs have so many rooms that their number has 201 digits.
        lot, store = Lot({1: LONGEST, 2: LONGEST}), Store((2, LONGEST), (1, LONGEST))
        self.assertEqual((fewest_of(lot, store), least_cap(lot, store)), (2 * LONGEST, 2))
        number, packing, size = rooms_paper(lot, store)
        self.assertEqual((number, size), (2 * LONGEST, 1))
        self.assertIs(is_packing_of(lot, store, packing), True)
        self.assertIs(is_cap_paper(lot, store, cap_paper(lot, store)), True)
        for lot, store in (
            (Lot({1: 5}), Store((10, LONGEST), (7, LONGEST))), (Lot({5: LONGEST, 1: 7}), Store((5, LONGEST), (3, 1), (5, LONGEST))),
            (Lot({2: LONGEST}), Store((10, LONGEST), (7, LONGEST), (8, LONGEST))), (Lot({1: 3}), Store((4, LONGEST), (2, 1), (4, LONGEST))),
        ):
            paper = cap_paper(lot, store)
            self.assertEqual((is_cap_paper(lot, store, paper), paper[0]), (True, least_cap(lot, store)))
            paper = rooms_paper(lot, store)
            self.assertEqual((is_packing_of(lot, store, paper[1]), paper[0], used_rooms(paper[1])), (True,) + (fewest_of(lot, store),) * 2)


class TestWrongInputs(unittest.TestCase):
    def test_lots(self):
        for value in not_lots():
            for call in (fewest_rooms, least_room) + OF_STORES:
                self.assertEqual(raised(call, value, 0), (InvalidLot, None))
            for call in JUDGES:
                self.assertEqual(raised(call, value, None, None), (InvalidLot, None))

    def test_rooms(self):
        for lot in (PARCELS, Lot(), Lot({2: 1, 3: 1})):
            for value in not_size_values():
                for call in (fewest_rooms, least_room):
                    kind, kept = raised(call, lot, value)
                    self.assertIs(kind, InvalidNumber)
                    self.assertIs(kept, value)

    def test_stores(self):
        for lot in (PARCELS, Lot(), Lot({2: 1, 3: 1})):
            for value in not_stores():
                for call in OF_STORES:
                    self.assertEqual(raised(call, lot, value), (InvalidStore, None))
                for call in JUDGES:
                    self.assertEqual(raised(call, lot, value, None), (InvalidStore, None))

    def test_lots_that_are_not_chained(self):
        for sizes, gap in not_chains():
            lot = Lot({size: 1 for size in sizes})
            # The gap comes ahead of the sizes that find no room.
            self.assertEqual([raised(call, lot, 1) for call in (fewest_rooms, least_room)], [(NoChain, gap)] * 2)
            for store in (Store(), Store((1, 1)), Store((LONGEST, 9))):
                self.assertEqual([raised(call, lot, store) for call in OF_STORES], [(NoChain, gap)] * 4)
                self.assertEqual([raised(call, lot, store, None) for call in JUDGES], [(NoChain, gap)] * 2)

    def test_nothing_changes(self):
        lot, store = Lot({1: 5, 2: 3, 6: 4}), Store((10, 2), (7, 3))
        for call in OF_STORES:
            self.assertEqual(call(lot, store), call(lot, store))
        self.assertEqual((lot, store), (PARCELS, SHELVES))


if __name__ == "__main__":
    unittest.main()
