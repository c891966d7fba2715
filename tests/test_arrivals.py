"""Stage 14: things in any order, with the promises 0.1 to 0.6, 0.9, 0.15, 0.18, 6.1 and 14.1."""

import itertools
import unittest
import unittest.mock

from chainpacks.decide.arrivals import fooled_row, is_fooled_row, is_open, is_shutter, opened, shutter
from chainpacks.errors import InvalidLot, InvalidSizes, InvalidStore, NoChain
from chainpacks.pack.rules import is_row, is_taken, lot_of
from chainpacks.decide.levels import fits
from chainpacks.things.lots import Lot
from chainpacks.things.stores import Store
from walks import all_rows, can_fit, store_of
from wrong_values import LONGEST, all_values, not_chains, not_sizes, not_stores, raised

SHELVES = Store((10, 2), (7, 3))
CHAINS = [(1,), (2,), (5,), (1, 2), (1, 3), (2, 4), (1, 2, 4), (1, 2, 6), (2, 6), (3, 6), (1, 7)]
TWELVE = tuple(2 ** k for k in range(12))
PLAIN = (is_open, shutter, fooled_row, opened)
JUDGES = (is_shutter, is_fooled_row)


def first_fit(things, rooms):
    """How many single things find a room, if each one goes into the first room with enough space, until one finds none."""
    left = list(rooms)
    for packed, thing in enumerate(things):
        free = [at for at in range(len(left)) if left[at] >= thing]
        if not free:
            return packed
        left[free[0]] -= thing
    return len(things)


def shutters_of(chain, rooms):
    """All shutters of single rooms."""
    return [
        (size, index, later) for size in chain for index, later in itertools.combinations(range(len(rooms)), 2)
        if rooms[index] >= size and rooms[later] // chain[0] * chain[0] % size
    ]


class TestExamples(unittest.TestCase):
    def test_first_example(self):
        told = [
            is_open((1, 2, 6), SHELVES), is_open((1, 2, 6), Store((12, 3))), is_open((1, 2, 6), Store((7, 1), (6, 2))),
            is_open((2, 6), Store((7, 1), (6, 2))), is_open((1, 7), SHELVES),
        ]
        self.assertEqual(told, [False, True, True, True, False])

    def test_second_example(self):
        told = [
            is_shutter((1, 2, 6), SHELVES, (2, 0, 4)), is_fooled_row((1, 2, 6), SHELVES, ((1, 1), (2, 19))),
            is_fooled_row((1, 2, 6), SHELVES, ((2, 19), (1, 1))),
        ]
        self.assertEqual(told, [True, True, False])

    def test_third_example(self):
        told = [
            opened((1, 2, 6), Store((6, 2), (7, 1))).runs, opened((1, 2, 6), SHELVES), opened((2, 6), Store((8, 1), (3, 2))).runs,
            shutter((1, 2, 6), Store((6, 4))),
        ]
        self.assertEqual(told, [((7, 1), (6, 2)), None, ((3, 2), (8, 1)), None])


class TestSmall(unittest.TestCase):
    """Small chains and stores against a look at all pairs of rooms, all orders of rooms and all rows of things."""

    def test_open_and_shutters(self):
        for chain, rooms in itertools.product(CHAINS, all_rows(range(1, 9), 3)):
            store, good = store_of(rooms), shutters_of(chain, rooms)
            self.assertIs(is_open(chain, store), not good)
            one = shutter(chain, store)
            self.assertIs(one in good if good else one is None, True)
            self.assertIs(is_shutter(chain, store, one), bool(good))

    def test_every_shutter(self):
        for chain, rooms in itertools.product(((1, 2, 6), (2, 6), (1, 3)), [(), (7,), (7, 6), (6, 7), (8, 3, 3), (7, 7), (1, 6, 5), (12, 10, 12)]):
            store, good = store_of(rooms), shutters_of(chain, rooms)
            for value in itertools.product(range(-1, 8), range(-1, 5), range(-1, 5)):
                self.assertIs(is_shutter(chain, store, value), value in good)

    def test_open_stores_take_all_things_in_every_order(self):
        for chain in ((1, 2), (2, 4), (1, 3), (1, 2, 4)):
            for rooms in all_rows(range(1, 6), 3):
                if sum(rooms) <= 8:
                    fooled = any(
                        first_fit(things, rooms) < len(things) and can_fit(things, rooms)
                        for many in range(1, 8) for things in itertools.product(chain, repeat=many)
                    )
                    self.assertIs(is_open(chain, store_of(rooms)), not fooled)

    def test_fooled_rows(self):
        for chain, rooms in itertools.product(CHAINS, all_rows(range(1, 9), 3)):
            store = store_of(rooms)
            row = fooled_row(chain, store)
            if is_open(chain, store):
                self.assertIsNone(row)
                continue
            self.assertIs(is_row(row) and len(row) <= 40 and all(size in chain for size, _ in row), True)
            things = [size for size, many in row for _ in range(many)]
            self.assertLess(first_fit(things, rooms), len(things))
            self.assertIs(can_fit(things, rooms), True)
            self.assertIs(is_fooled_row(chain, store, row), True)

    def test_every_row(self):
        for chain, rooms in (((1, 2), (3, 2)), ((1, 2), (2, 3)), ((1, 2, 4), (5, 4)), ((1, 2, 4), (4, 5)), ((2, 4), (5, 3, 4)), ((1, 3), (4, 3))):
            store = store_of(rooms)
            for many in range(7):
                for things in itertools.product(chain, repeat=many):
                    row = tuple((size, 1) for size in things)
                    good = can_fit(things, rooms) and first_fit(things, rooms) < len(things)
                    self.assertIs(is_fooled_row(chain, store, row), good)
                    self.assertIs(is_fooled_row(chain, store, row[::-1]), can_fit(things, rooms) and first_fit(things[::-1], rooms) < len(things))

    def test_orders_of_rooms(self):
        for chain, rooms in itertools.product(CHAINS, all_rows(range(1, 9), 3) + [(7, 6, 6, 12), (6, 7, 3, 3), (12, 8, 4, 9), (2, 1, 2, 1)]):
            store = store_of(rooms)
            good = any(is_open(chain, store_of(order)) for order in set(itertools.permutations(rooms)))
            found = opened(chain, store)
            self.assertIs(found is not None, good)
            if found is not None:
                self.assertEqual((is_open(chain, found), found.rooms, len(found) <= len(store)), (True, store.rooms, True))
                self.assertEqual(opened(chain, found), found)


class TestEdges(unittest.TestCase):
    def test_no_rooms_and_one_room(self):
        for chain in CHAINS + [TWELVE]:
            for store in [Store()] + [Store((room, 1)) for room in (1, 3, 7, 4096, LONGEST)]:
                self.assertEqual((is_open(chain, store), shutter(chain, store), fooled_row(chain, store)), (True, None, None))
                self.assertEqual(opened(chain, store), store)

    def test_one_size(self):
        for store in (SHELVES, SHELVES.backward(), Store((3, 5), (7, 2), (1, 9))):
            for size in (1, 2, 7, 100):
                self.assertIs(is_open((size,), store), True)

    def test_rooms_that_are_less_than_the_least_size(self):
        store = Store((12, 1), (3, 5), (8, 1), (2, 7))
        self.assertIs(is_open((4, 8), store), True)
        self.assertEqual((is_open((2, 8), store), shutter((2, 8), store) in [(8, 0, 1), (8, 0, 3)]), (False, True))
        self.assertIs(is_shutter((4, 8), store, (4, 0, 1)), False)
        self.assertEqual(opened((4, 8), Store((8, 1), (12, 1), (3, 1))).runs, ((3, 1), (12, 1), (8, 1)))

    def test_equal_rooms_one_behind_the_other(self):
        self.assertEqual((is_open((1, 2), Store((3, 1))), is_open((1, 2), Store((3, 2)))), (True, False))
        self.assertEqual((shutter((1, 2), Store((3, 2))), opened((1, 2), Store((3, 2)))), ((2, 0, 1), None))
        self.assertIs(is_fooled_row((1, 2), Store((3, 2)), fooled_row((1, 2), Store((3, 2)))), True)
        self.assertEqual([is_shutter((1, 2), Store((3, 4)), (2, index, later)) for index, later in ((0, 3), (3, 0), (3, 3), (3, 4), (2, 3))],
                         [True, False, False, False, True])

    def test_forty_runs(self):
        store = Store(*[(64 - at % 2, 2) for at in range(40)])
        self.assertIs(is_open((1, 64), store), False)
        row = fooled_row((1, 64), store)
        self.assertIs(is_fooled_row((1, 64), store, row), True)
        self.assertIs(is_fooled_row(TWELVE, store, fooled_row(TWELVE, store)), True)
        self.assertIsNone(opened(TWELVE, store))
        self.assertEqual(opened((64,), store), store)
        mixed = Store(*[(at % 4 + 1 + 64 * (at % 3), 2 + at) for at in range(40)])
        self.assertEqual(len(mixed), 40)
        self.assertIs(is_fooled_row((1, 2, 64), mixed, fooled_row((1, 2, 64), mixed)), True)
        turned = Store(*[(3 ** (at % 11) * (1 + at % 2), 1 + at % 3) for at in range(40)])
        found = opened((1, 3, 9), turned)
        self.assertIs(found is None or is_open((1, 3, 9), found), True)

    def test_rows_of_forty_and_more_runs(self):
        store = Store((2, 40), (3, 1))
        row = ((1, 1),) + ((2, 1),) * 39
        self.assertEqual((len(row), is_fooled_row((1, 2), store, row)), (40, False))
        row = ((1, 1),) + ((2, 1),) * 38 + ((2, 3),)
        self.assertEqual((len(row), is_fooled_row((1, 2), store, row)), (40, True))
        row = ((1, 1),) + ((2, 1),) * 39 + ((2, 2),)
        self.assertEqual((len(row), is_row(row), is_fooled_row((1, 2), store, row)), (41, True, False))
        self.assertIs(is_fooled_row((1, 2), store, ((1, 1), (2, 41))), True)
        self.assertIs(is_fooled_row((1, 2), store, ((1, 1), (2, 42))), False)
        self.assertIs(is_fooled_row((1, 2), store, ((1, 1), (2, 40))), False)

    def test_values_that_are_none(self):
        chain, row = (1, 2, 6), ((1, 1), (2, 19))
        for value in (
            [(1, 1), (2, 19)], ([1, 1], (2, 19)), ((1, 1), (2, 18)), ((1, 1), (2, 20)), ((2, 19),), ((1, 1), (2, 19), (4, 1)), (1, 1, 2, 19),
            ((True, 1), (2, 19)), ((1, True), (2, 19)), ((1, 1), (2, 19), ()), (((1, 1), (2, 19)),), ((1, 1), (2, 19), (1, 0)), ((3, 1), (2, 18)), (),
            ((1, 4), (2, 19)), ((12, 1),), ((1, 1), (2, 19), (1, 10 ** 220)), {(1, 1): 1, (2, 19): 1}, ((1, 10 ** 199), (2, 19)),
        ):
            self.assertIs(is_fooled_row(chain, SHELVES, value), False, value)
        self.assertEqual([is_fooled_row(chain, SHELVES, row), is_fooled_row((1, 2), SHELVES, row), is_fooled_row((1, 6), SHELVES, row)],
                         [True, True, False])
        for value in (
            (2, 0), (2, 0, 4, 4), [2, 0, 4], (True, 0, 4), (2, False, 4), (2, 0, True), (2, 0, 5), (2, -1, 4), (2, 0, -1), (3, 0, 4), (2, 4, 0),
            (2, 0, 1), (1, 0, 4), ("2", 0, 4), (2, None, 4), (2, 0, (4,)), ((2, 0, 4),), (2, 4, 4), (12, 0, 4), (2, 0, 10 ** 220), (10 ** 220, 0, 4),
        ):
            self.assertIs(is_shutter(chain, SHELVES, value), False, value)
        for value in all_values():
            for judge in JUDGES:
                self.assertIs(judge(chain, SHELVES, value), False)
            self.assertIs(is_shutter(chain, SHELVES, (value, 0, 4)), value is not True and value == 2)
            self.assertIs(is_shutter(chain, SHELVES, (2, value, 4)), value is not True and value is not False and value in (0, 1, 2))
            self.assertIs(is_shutter(chain, SHELVES, (2, 0, value)), value is not True and value == 2)
            self.assertIs(is_fooled_row(chain, SHELVES, ((1, 1), value)), False)
            self.assertIs(is_fooled_row(chain, SHELVES, ((1, 1), (2, value))), False)


class TestGreat(unittest.TestCase):
    def check(self, chain, store):
        one = shutter(chain, store)
        self.assertIs(is_shutter(chain, store, one), True)
        self.assertIs(is_open(chain, store), False)
        row = fooled_row(chain, store)
        self.assertIs(is_fooled_row(chain, store, row), True)
        self.assertLessEqual(len(row), 40)
        self.assertIs(fits(lot_of(row), store), True)
        self.assertIs(is_taken(row, store), False)

    def test_great_numbers(self):
        for figures in (20, 100, 198):
            great = 10 ** (figures - 1)
            for chain, runs in (
                ((1, 2, 6), ((10, great), (7, great))), ((great, 2 * great), ((5 * great, great), (3 * great + 7, great))),
                ((1, great), ((9, great // 10), (great, great), (great + 1, 1))), ((3, 6 * great), ((6 * great + 5, great), (7, 2))),
                ((1, 2, great), ((great, great), (3, 1))), ((2, great, 8 * great), ((9, great), (9 * great, great), (7 * great + 1, 5))),
            ):
                store = Store(*runs)
                self.check(chain, store)
                self.assertIs(is_open(chain[:1], store), True)
            self.assertIs(is_open((great, 6 * great), Store((6 * great + 1, great), (12 * great, great))), True)
            turned = Store((6 * great, great), (7 * great, 1))
            self.assertEqual(opened((great, 6 * great), turned), turned.backward())
            self.assertIsNone(opened((great, 6 * great), Store((6 * great, great), (7 * great, 2))))

    def test_rooms_that_only_great_things_fill(self):
        # There are so many rooms, and so great ones, that no lot fills them with things of the lesser sizes.
        great = 10 ** 199
        for chain, runs in (
            ((1, 2, great), ((great, great), (3, 1))), ((1, 2, 6, 6 * great), ((3, 5), (6 * great, great), (7, 3))),
            ((1, 5, 5 * 10 ** 150, great), ((great + 7, great), (10 ** 180, 10 ** 50), (6, 1))),
            ((2, 10 ** 90, 10 ** 180), ((11, 10 ** 30), (10 ** 199, 10 ** 100), (10 ** 90 + 3, 1))),
        ):
            self.check(chain, Store(*runs))

    def test_longest_numbers(self):
        # So many rooms hold a thing of the greatest size that there cannot be so many of it.
        self.check((1, LONGEST - 1), Store((LONGEST - 1, LONGEST), (LONGEST, 1), (1, 1)))
        self.check((1, 2, 6), Store((7, LONGEST), (8, 1)))
        self.check((1, 2, 6), Store((13, LONGEST // 2), (7, 9), (8, 1)))
        self.check((1, 2, 6), Store((3, 9), (7, LONGEST), (8, LONGEST // 4)))
        self.check((2, 6, 12), Store((13, LONGEST), (8, LONGEST // 2), (5, 1)))
        self.check((1, 2, 100), Store((101, 10 ** 190), (3, LONGEST), (5, 1), (3, 5)))
        # Things of all three sizes are needed, nearly as many as there can be, and the least ones come first.
        third = LONGEST // 3
        self.check((1, 2, 4), Store((4, third), (9, third), (6, third), (4, third)))
        self.check((1, 2, 6), Store((4, 2 * third), (7, third), (4, third)))
        self.check((1, 2, 4), Store((3, 3 * third), (5, third), (3, third)))
        self.check((1, 2, 100), Store((101, 10 ** 190), (203, 10 ** 199), (3, LONGEST // 3)))
        self.assertIs(is_open((1, LONGEST), Store((LONGEST, LONGEST))), True)
        self.assertIs(is_open((LONGEST,), Store((LONGEST, LONGEST), (5, LONGEST))), True)
        self.assertIs(is_open((1, LONGEST), Store((LONGEST, LONGEST), (5, LONGEST))), False)
        self.assertEqual(opened((1,), Store((5, LONGEST), (3, 1), (5, LONGEST))), Store((5, LONGEST), (3, 1), (5, LONGEST)))
        two = Store((5, LONGEST), (3, 1), (5, LONGEST), (2, 1))
        self.assertEqual(opened((1, 7), two), two)
        found = opened((1, 100), Store((100, 3), (5, LONGEST), (100, 1), (5, LONGEST), (7, 1)))
        self.assertEqual((is_open((1, 100), found), [many for room, many in found.runs if room == 5]), (True, [LONGEST, LONGEST]))

    def test_twelve_sizes(self):
        store = Store((5000, 10 ** 50), (4097, 3), (2047, 10 ** 60))
        self.check(TWELVE, store)
        self.check(TWELVE, store.backward())
        self.assertEqual(opened(TWELVE, Store((4096, 9), (1, 1), (4097, 1), (2, 4))), Store((1, 1), (2, 4), (4097, 1), (4096, 9))
                         if is_open(TWELVE, Store((1, 1), (2, 4), (4097, 1), (4096, 9))) else None)


class TestShortNumbers(unittest.TestCase):
    """If integers could only be very small, the row would still be found, as it is for integers of 200 digits."""

    ROWS = [
        (4, 5, 5, 2, 3), (3, 2, 3, 2, 3), (8, 2, 5, 3), (3, 3, 3, 3), (3, 3, 2, 2, 5), (2, 2, 2, 3, 3), (4, 4, 4, 5, 5),
        (2, 2, 2, 2, 3, 1), (3, 3, 3, 3, 3), (2, 2, 4, 4, 3), (3, 3, 3, 5, 3), (4, 9, 6, 4), (8, 4, 7, 7), (4, 4, 7, 4), (2, 3, 3, 9, 3, 3),
    ]

    def has_row(self, chain, rooms, most):
        """Whether there is a fooled row of at most so many things of each size, by a look at all rows."""
        start = (tuple(rooms), (0,) * len(chain))
        seen, waiting = {start}, [start]
        while waiting:
            left, counts = waiting.pop()
            for which, size in enumerate(chain):
                more = counts[:which] + (counts[which] + 1,) + counts[which + 1:]
                at = next((at for at, space in enumerate(left) if space >= size), None)
                if more[which] <= most and at is None:
                    if can_fit([each for each, many in zip(chain, more) for _ in range(many)], rooms):
                        return True
                elif more[which] <= most:
                    state = (left[:at] + (left[at] - size,) + left[at + 1:], more)
                    if state not in seen:
                        seen.add(state)
                        waiting.append(state)
        return False

    def test_small_limits(self):
        place = "chainpacks.decide.arrivals"
        for most in (2, 3, 4, 5):
            with unittest.mock.patch.multiple(place, _LONGEST=most, is_count=lambda value: 0 <= value <= most):
                for chain in ((1, 2), (1, 3), (2, 4), (1, 2, 4), (1, 2, 6), (1, 3, 6)):
                    for rooms in [row for row in all_rows(range(1, 10), 3) if sum(row) <= 15] + self.ROWS:
                        store = store_of(rooms)
                        if not is_open(chain, store):
                            told = raised(fooled_row, chain, store)
                            self.assertEqual(told, None if self.has_row(chain, rooms, most) else (InvalidLot, None), (chain, rooms, most))
                            if told is None:
                                counts = lot_of(fooled_row(chain, store)).counts
                                self.assertLessEqual(max(counts.values()), most)


class TestWrongInputs(unittest.TestCase):
    def test_chains(self):
        for value in not_sizes():
            for call in PLAIN:
                self.assertEqual(raised(call, value, None), (InvalidSizes, None))
            for call in JUDGES:
                self.assertEqual(raised(call, value, None, None), (InvalidSizes, None))

    def test_sizes_that_are_no_chain(self):
        for sizes, gap in not_chains():
            # The gap comes ahead of the store.
            for store in (None, Store(), SHELVES):
                self.assertEqual([raised(call, sizes, store) for call in PLAIN], [(NoChain, gap)] * 4)
                self.assertEqual([raised(call, sizes, store, None) for call in JUDGES], [(NoChain, gap)] * 2)

    def test_stores(self):
        for value in not_stores():
            for chain in CHAINS:
                self.assertEqual([raised(call, chain, value) for call in PLAIN], [(InvalidStore, None)] * 4)
                self.assertEqual([raised(call, chain, value, None) for call in JUDGES], [(InvalidStore, None)] * 2)

    def test_nothing_changes(self):
        store = Store((10, 2), (7, 3))
        for call in PLAIN:
            self.assertEqual(call((1, 2, 6), store), call((1, 2, 6), store))
        self.assertEqual((store, lot_of(((1, 1), (2, 19)))), (SHELVES, Lot({1: 1, 2: 19})))


if __name__ == "__main__":
    unittest.main()
