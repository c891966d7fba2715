"""Stage 3: the class Lot, with the promises 0.1 to 0.8, 0.11 and 3.1 as far as it needs them."""

import copy
import itertools
import unittest

from chainpacks.errors import InvalidLot, InvalidNumber, InvalidOperation, ParseError, TooMany
from chainpacks.pack.packings import Packing
from chainpacks.things import lots
from chainpacks.things.lots import Lot
from chainpacks.things.stores import Store
from wrong_values import (
    FAR_TOO_LONG, LONGEST, TOO_LONG, all_values, not_counts, not_lots, not_size_values, raised,
)

PARCELS = Lot({1: 5, 2: 3, 6: 4})
TWELVE = Lot({3 * k: k for k in range(1, 13)})


def small_lots():
    """All lots of the sizes 1, 2, 3 and 6 with counts of at most 2, and some others."""
    found = []
    for counts in itertools.product(range(3), repeat=4):
        found.append({size: count for size, count in zip((1, 2, 3, 6), counts) if count})
    return found + [{4: 3}, {5: 1, 10: 2}, {7: 4, 3: 2}]


def things_of(counts):
    """All things one by one, the smaller ones first."""
    return sorted(size for size, count in counts.items() for _ in range(count))


def counts_of(things):
    return {size: things.count(size) for size in sorted(set(things))}


class TestExamples(unittest.TestCase):
    def test_first_example(self):
        told = [
            PARCELS.total, PARCELS.number, PARCELS.units(2), PARCELS.units(3), PARCELS.largest(5).counts,
            PARCELS.thing_at(5), PARCELS[6], PARCELS[4],
        ]
        self.assertEqual(told, [35, 12, 15, 8, {2: 1, 6: 4}, 2, 4, 0])

    def test_second_example(self):
        told = [
            PARCELS.lines[1], (PARCELS - Lot({6: 4})).counts, (PARCELS + Lot({3: 1})).is_chained,
            Lot({2: 1}).is_part_of(PARCELS), (PARCELS * 10 ** 30).number,
        ]
        self.assertEqual(told, ["size 2 many 3", {1: 5, 2: 3}, False, True, 12000000000000000000000000000000])

    def test_third_example(self):
        told = [
            str(PARCELS), PARCELS.scaled(5).sizes, PARCELS.with_count(1, 0).smallest(4).counts, len(Lot()), 6 in PARCELS,
        ]
        self.assertEqual(told, ["lot of 12 things, 3 sizes", (5, 10, 30), {2: 3, 6: 1}, 0, True])

    def test_constant(self):
        self.assertEqual(lots.MAX_SIZES, 12)


class TestThings(unittest.TestCase):
    """Lots against lists of all single things."""

    def test_numbers(self):
        for counts in small_lots():
            lot, things = Lot(counts), things_of(counts)
            self.assertEqual(lot.counts, counts_of(things))
            self.assertEqual(list(lot.counts), sorted(counts))
            self.assertEqual(lot.sizes, tuple(sorted(counts)))
            self.assertEqual(list(lot), sorted(counts))
            self.assertEqual((lot.number, lot.total, len(lot)), (len(things), sum(things), len(counts)))
            self.assertEqual(str(lot), f"lot of {len(things)} things, {len(counts)} sizes")
            self.assertEqual(lot.lines, tuple(f"size {size} many {counts[size]}" for size in sorted(counts)))
            self.assertEqual(Lot.from_lines(*lot.lines[::-1]), lot)
            self.assertEqual([lot[size] for size in range(1, 9)], [things.count(size) for size in range(1, 9)])
            self.assertEqual([size in lot for size in range(9)], [size in things for size in range(9)])

    def test_chained(self):
        for counts in small_lots():
            sizes = sorted(counts)
            chained = all(high % low == 0 for low, high in itertools.combinations(sizes, 2))
            self.assertIs(Lot(counts).is_chained, chained)

    def test_units(self):
        for counts in small_lots():
            for size in range(1, 13):
                great = [thing for thing in things_of(counts) if thing >= size]
                if all(thing % size == 0 for thing in great):
                    self.assertEqual(Lot(counts).units(size), sum(great) // size)
                else:
                    self.assertEqual(raised(Lot(counts).units, size), (InvalidOperation, None))

    def test_smallest_and_largest(self):
        for counts in small_lots():
            lot, things = Lot(counts), things_of(counts)
            for number in range(len(things) + 1):
                self.assertEqual(lot.smallest(number).counts, counts_of(things[:number]))
                self.assertEqual(lot.largest(number).counts, counts_of(things[len(things) - number:]))
                self.assertEqual(lot.smallest(number) + lot.largest(len(things) - number), lot)
            self.assertEqual([lot.thing_at(index) for index in range(len(things))], things)
            for number in (len(things) + 1, -1):
                self.assertEqual(raised(lot.smallest, number), (InvalidNumber, number))
                self.assertEqual(raised(lot.largest, number), (InvalidNumber, number))
            for index in (len(things), -1, LONGEST):
                self.assertEqual(raised(lot.thing_at, index), (InvalidNumber, index))

    def test_sums_and_differences(self):
        chosen = small_lots()[::3]
        for one, other in itertools.product(chosen, chosen):
            mine, theirs = things_of(one), things_of(other)
            self.assertEqual((Lot(one) + Lot(other)).counts, counts_of(mine + theirs))
            held = all(mine.count(size) >= theirs.count(size) for size in theirs)
            self.assertIs(Lot(other).is_part_of(Lot(one)), held)
            if held:
                left = {size: mine.count(size) - theirs.count(size) for size in sorted(set(mine))}
                self.assertEqual((Lot(one) - Lot(other)).counts, {size: left[size] for size in left if left[size]})
            else:
                self.assertEqual(raised(lambda: Lot(one) - Lot(other)), (InvalidOperation, None))
            self.assertIs(Lot(one) == Lot(other), mine == theirs)
            self.assertIs(Lot(one) != Lot(other), mine != theirs)

    def test_products_counts_and_scales(self):
        for counts in small_lots():
            lot, things = Lot(counts), things_of(counts)
            for number in range(4):
                self.assertEqual((lot * number).counts, counts_of(things * number))
                for size in (1, 2, 4, 7):
                    rest = [thing for thing in things if thing != size]
                    self.assertEqual(lot.with_count(size, number).counts, counts_of(rest + [size] * number))
            for factor in (1, 2, 5):
                self.assertEqual(lot.scaled(factor).counts, counts_of([factor * thing for thing in things]))


class TestEdges(unittest.TestCase):
    def test_no_sizes(self):
        for lot in (Lot(), Lot({}), Lot(None), Lot.from_lines(), PARCELS - PARCELS, PARCELS * 0, Lot() * LONGEST):
            self.assertEqual((lot.counts, lot.sizes, lot.lines, lot.number, lot.total), ({}, (), (), 0, 0))
            self.assertEqual((len(lot), list(lot), lot.is_chained, lot.units(7)), (0, [], True, 0))
            self.assertEqual(str(lot), "lot of 0 things, 0 sizes")
            self.assertEqual((lot.smallest(0), lot.largest(0), lot), (Lot(), Lot(), Lot()))
            self.assertTrue(lot.is_part_of(Lot()) and lot.is_part_of(PARCELS))
            self.assertEqual(raised(lot.thing_at, 0), (InvalidNumber, 0))

    def test_order_of_a_passed_dict(self):
        lot = Lot({6: 4, 1: 5, 2: 3})
        self.assertEqual(lot, PARCELS)
        self.assertEqual(list(lot.counts), [1, 2, 6])
        self.assertEqual((Lot({9: 1}) + Lot({2: 1, 4: 1})).sizes, (2, 4, 9))
        self.assertEqual(list(PARCELS.with_count(4, 1).counts), [1, 2, 4, 6])

    def test_twelve_and_thirteen_sizes(self):
        self.assertEqual(len(TWELVE), 12)
        self.assertEqual(raised(Lot, {size: 1 for size in range(1, 14)}), (InvalidLot, None))
        self.assertEqual(len(TWELVE + TWELVE), 12)
        self.assertEqual(len(TWELVE.with_count(3, 0).with_count(4, 1)), 12)
        self.assertEqual(TWELVE.with_count(3, 9)[3], 9)
        self.assertEqual(TWELVE.with_count(4, 0), TWELVE)
        self.assertEqual(raised(TWELVE.with_count, 4, 1), (TooMany, 12))
        self.assertEqual(raised(lambda: TWELVE + Lot({1: 1})), (TooMany, 12))
        self.assertEqual(raised(lambda: Lot({1: 1}) + TWELVE), (TooMany, 12))
        self.assertEqual(TWELVE * 0, Lot())
        self.assertEqual(raised(lambda: TWELVE - Lot({1: 1})), (InvalidOperation, None))

    def test_differences_that_leave_nothing_of_a_size(self):
        self.assertEqual((PARCELS - Lot({1: 5})).sizes, (2, 6))
        self.assertEqual(PARCELS - Lot(), PARCELS)
        self.assertEqual(raised(lambda: PARCELS - Lot({1: 6})), (InvalidOperation, None))
        self.assertEqual(raised(lambda: PARCELS - Lot({3: 1})), (InvalidOperation, None))
        self.assertEqual(raised(lambda: Lot() - PARCELS), (InvalidOperation, None))

    def test_chains(self):
        for sizes in ((5,), (1, 2, 6), (3, 6, 12, 24), (LONGEST,), (1, LONGEST)):
            self.assertIs(Lot({size: 1 for size in sizes}).is_chained, True)
        for sizes in ((2, 3), (1, 2, 3), (4, 6, 12), (1, 2, 5, 10), (10 ** 199, 10 ** 199 + 1)):
            self.assertIs(Lot({size: 1 for size in sizes}).is_chained, False)

    def test_contains_and_equals_take_every_value(self):
        for value in all_values():
            self.assertIs(value in PARCELS, False if isinstance(value, bool) else value in (1, 2, 6))
            self.assertIs(PARCELS == value, isinstance(value, Lot) and value.counts == {1: 5, 2: 3, 6: 4})
            self.assertIs(PARCELS != value, not PARCELS == value)
            self.assertIs(PARCELS.is_part_of(value), isinstance(value, Lot) and value.counts == {1: 5, 2: 3, 6: 4})
        self.assertIs(Lot({1: 1}).is_part_of(PARCELS), True)
        self.assertIs(Lot({1: 1}).is_part_of(PARCELS.counts), False)

    def test_operators_that_are_not_told(self):
        for call in (lambda: 2 * PARCELS, lambda: PARCELS < PARCELS, lambda: -PARCELS):
            with self.assertRaises(TypeError):
                call()


class TestGreat(unittest.TestCase):
    """Numbers with which nobody can walk through the single things."""

    def test_sums(self):
        for figures in (20, 100, 200):
            great = 10 ** (figures - 1)
            lot = Lot({great: great, 2 * great: 3 * great, 6 * great: 9 * great})
            self.assertEqual(lot.number, 13 * great)
            self.assertEqual(lot.total, 61 * great * great)
            self.assertEqual([lot.units(size) for size in (1, 2 * great, 3 * great, 6 * great)],
                             [61 * great * great, 30 * great, 18 * great, 9 * great])
            self.assertEqual(lot.smallest(2 * great).counts, {great: great, 2 * great: great})
            self.assertEqual(lot.largest(great + 5).counts, {6 * great: great + 5})
            self.assertEqual([lot.thing_at(index) for index in (great - 1, great, 4 * great - 1, 4 * great)],
                             [great, 2 * great, 2 * great, 6 * great])
            self.assertEqual(Lot.from_lines(*lot.lines), lot)
            self.assertEqual((lot - Lot({great: 1}))[great], great - 1)
            self.assertEqual(str(lot), f"lot of {13 * great} things, 3 sizes")

    def test_longest(self):
        lot = Lot({LONGEST: LONGEST})
        self.assertEqual((lot.number, lot.total, lot.units(LONGEST)), (LONGEST, LONGEST ** 2, LONGEST))
        self.assertEqual(lot.largest(LONGEST), lot)
        self.assertEqual(lot.thing_at(LONGEST - 1), LONGEST)
        self.assertEqual(lot[LONGEST], LONGEST)
        self.assertEqual((Lot({1: 1}) * LONGEST).counts, {1: LONGEST})
        self.assertEqual(Lot({1: 1}).scaled(LONGEST).counts, {LONGEST: 1})
        two = Lot({1: LONGEST, 2: LONGEST})
        self.assertEqual(two.number, 2 * LONGEST)
        # All things are more than a number of 200 digits can tell.
        self.assertEqual(raised(two.smallest, 2 * LONGEST), (InvalidNumber, 2 * LONGEST))
        self.assertEqual(two.largest(LONGEST).counts, {2: LONGEST})


class TestLines(unittest.TestCase):
    def test_any_order(self):
        for lines in itertools.permutations(PARCELS.lines):
            self.assertEqual(Lot.from_lines(*lines), PARCELS)

    def test_no_lines(self):
        wrong = [
            "", " ", "size", "size 1", "size 1 many", "size 1 many ", "size  1 many 3", " size 1 many 3", "size 1 many 3 ",
            "size 1  many 3", "size 1 many  3", "size 1 many 3\n", "\nsize 1 many 3", "size 1 many 3 4", "Size 1 many 3",
            "size 1 Many 3", "size 0 many 3", "size 1 many 0", "size 01 many 3", "size 1 many 03", "size -1 many 3",
            "size 1 many -3", "size +1 many 3", "size 1 many +3", "size 1 many 3.0", "size 1 many 3e1", "size 1_0 many 3",
            "size one many 3", "room 1 many 3", "many 3 size 1", "size 1 many 3, size 2 many 3", "size 1 many 0x3",
            "size 1 many " + "1" * 201, "size " + "1" * 201 + " many 1", "size 1 many " + "9" * 7900, "size\t1\tmany\t3",
            "size \u0661 many 3", "size 1 many \u00b2",
        ]
        for line in wrong + [value for value in all_values() if not isinstance(value, str)]:
            self.assertEqual(raised(Lot.from_lines, line), (ParseError, 0), line)
            self.assertEqual(raised(Lot.from_lines, "size 5 many 1", line, "size 5 many 1"), (ParseError, 1), line)

    def test_numbers_of_200_digits(self):
        great = "9" * 200
        self.assertEqual(Lot.from_lines(f"size {great} many {great}").counts, {LONGEST: LONGEST})

    def test_the_same_size_twice(self):
        self.assertEqual(raised(Lot.from_lines, "size 1 many 1", "size 2 many 1", "size 1 many 2"), (ParseError, 2))
        self.assertEqual(raised(Lot.from_lines, "size 1 many 1", "size 1 many 1", "no"), (ParseError, 1))

    def test_too_many_sizes_come_last(self):
        lines = [f"size {size} many 1" for size in range(1, 14)]
        self.assertEqual(Lot.from_lines(*lines[1:]).number, 12)
        self.assertEqual(raised(Lot.from_lines, *lines), (InvalidLot, None))
        self.assertEqual(raised(Lot.from_lines, *lines, "no"), (ParseError, 13))
        self.assertEqual(raised(Lot.from_lines, *lines, lines[0]), (ParseError, 13))

    def test_called_off_an_object(self):
        self.assertEqual(PARCELS.from_lines("size 3 many 2"), Lot({3: 2}))


class TestWrongInputs(unittest.TestCase):
    def test_counts(self):
        for value in all_values():
            if value is not None and value != {} and value != {1: 2}:
                self.assertEqual(raised(Lot, value), (InvalidLot, None), value)
        for value in not_size_values():
            self.assertEqual(raised(Lot, {1: value}), (InvalidLot, None), value)
            self.assertEqual(raised(Lot, {1: 2, 3: value}), (InvalidLot, None), value)
            try:
                wrong = {value: 1}
            except TypeError:
                continue
            self.assertEqual(raised(Lot, wrong), (InvalidLot, None), value)
            self.assertEqual(raised(Lot, {**wrong, 7: 1}), (InvalidLot, None), value)
        self.assertEqual(raised(Lot, ((1, 5),)), (InvalidLot, None))
        self.assertEqual(raised(Lot, PARCELS), (InvalidLot, None))

    def test_sizes(self):
        for value in not_size_values():
            for call in (PARCELS.units, PARCELS.scaled, PARCELS.__getitem__, lambda size: PARCELS.with_count(size, 1)):
                kind, kept = raised(call, value)
                self.assertIs(kind, InvalidNumber)
                self.assertIs(kept, value)

    def test_numbers(self):
        for value in not_counts():
            for call in (PARCELS.smallest, PARCELS.largest, PARCELS.thing_at, lambda number: PARCELS.with_count(1, number)):
                kind, kept = raised(call, value)
                self.assertIs(kind, InvalidNumber)
                self.assertIs(kept, value)

    def test_the_first_error_comes_first(self):
        self.assertEqual(raised(PARCELS.with_count, 0, -1), (InvalidNumber, 0))
        self.assertEqual(raised(PARCELS.with_count, True, None), (InvalidNumber, True))
        self.assertEqual(raised(TWELVE.with_count, 1, -1), (InvalidNumber, -1))
        self.assertEqual(raised(Lot({3: 1}).units, 0), (InvalidNumber, 0))

    def test_operands(self):
        for value in not_lots():
            self.assertEqual(raised(lambda: PARCELS + value), (InvalidOperation, None), value)
            self.assertEqual(raised(lambda: PARCELS - value), (InvalidOperation, None), value)
        for value in not_counts():
            self.assertEqual(raised(lambda: PARCELS * value), (InvalidOperation, None), value)
        self.assertEqual(raised(lambda: Lot() * TOO_LONG), (InvalidOperation, None))
        self.assertEqual(raised(lambda: PARCELS * FAR_TOO_LONG), (InvalidOperation, None))


class TestNothingChanges(unittest.TestCase):
    def test_dicts_are_copied(self):
        told = {6: 4, 1: 5, 2: 3}
        lot = Lot(told)
        told[7] = 1
        del told[6]
        counts = lot.counts
        counts[9] = 3
        counts.pop(1)
        self.assertEqual(lot, PARCELS)
        self.assertEqual((lot.counts, lot.sizes, lot.number), ({1: 5, 2: 3, 6: 4}, (1, 2, 6), 12))

    def test_objects_stay(self):
        told = {6: 4, 1: 5, 2: 3}
        ahead = copy.deepcopy(told)
        lot, other = Lot(told), Lot({1: 1, 3: 2})
        for call in (
            lambda: lot + other, lambda: lot - Lot({1: 5}), lambda: lot * 7, lambda: lot.with_count(1, 0),
            lambda: lot.with_count(9, 9), lambda: lot.scaled(3), lambda: lot.smallest(6), lambda: lot.largest(6),
            lambda: lot.units(2), lambda: lot.lines, lambda: list(lot), lambda: str(lot), lambda: lot - other,
        ):
            raised(call)
            self.assertEqual((lot.counts, lot.sizes, lot.lines), (PARCELS.counts, PARCELS.sizes, PARCELS.lines))
            self.assertEqual(other.counts, {1: 1, 3: 2})
        self.assertEqual(list(told.items()), list(ahead.items()))

    def test_properties_are_only_read(self):
        for name in ("counts", "sizes", "lines", "number", "total", "is_chained"):
            with self.assertRaises(AttributeError):
                setattr(PARCELS, name, ())

    def test_other_objects_are_no_lots(self):
        self.assertNotEqual(Lot({1: 1}), Store((1, 1)))
        self.assertNotEqual(Lot(), Packing())


if __name__ == "__main__":
    unittest.main()
