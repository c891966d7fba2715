"""Stage 8: which lots a store takes, with the promises 0.1 to 0.8, 0.11, 0.12, 0.16, 0.18, 0.19 and 8.1."""

import itertools
import unittest

from chainpacks.decide.levels import fits
from chainpacks.decide.profiles import (
    are_alike, common_store, is_easier, is_profile, joint_store, parting_lot, parting_store, plain_store, profile, takes_all,
)
from chainpacks.errors import InvalidLot, InvalidOperation, InvalidSizes, InvalidStore, NoChain
from chainpacks.things.lots import Lot
from chainpacks.things.stores import Store
from walks import all_rows, all_things, can_fit, lot_of_things, store_of
from wrong_values import (
    FAR_TOO_LONG, LONGEST, TOO_LONG, all_values, not_chains, not_lots, not_sizes, not_stores, raised,
)

CHAIN = (1, 2, 6)
SHELVES = Store((10, 2), (7, 3))
PAIRS = (takes_all, are_alike, parting_lot, common_store, joint_store)
CHAINS = ((1, 2, 4), (2, 4), (1, 3), (3,), (2, 6))
TWELVE = tuple(2 ** k for k in range(12))


def small_rows():
    """Rows of at most three rooms of which none is ahead of a lesser one; the order changes nothing."""
    return [row for row in all_rows((1, 2, 3, 4, 7), 3) if list(row) == sorted(row)]


def taken(chain, rooms):
    """The things of each lot of the chain that fits in the rooms, by a look at all packings."""
    most = [sum(room // size for room in rooms) for size in chain]
    found = set()
    for counts in itertools.product(*[range(number + 1) for number in most]):
        things = tuple(size for size, count in zip(chain, counts) for _ in range(count))
        if can_fit(things, rooms):
            found.add(things)
    return found


def is_plain(chain, store):
    """Whether all rooms of the store are sizes of the chain, ascending."""
    rooms = [room for room, _ in store.runs]
    return rooms == sorted(rooms) and all(room in chain for room in rooms)


class TestExamples(unittest.TestCase):
    def test_first_example(self):
        told = [
            profile(CHAIN, SHELVES), plain_store(CHAIN, (41, 19, 5)).runs, is_profile(CHAIN, (41, 19, 7)),
            are_alike(CHAIN, SHELVES, Store((6, 5), (2, 4), (1, 3))),
        ]
        self.assertEqual(told, [(41, 19, 5), ((1, 3), (2, 4), (6, 5)), False, True])

    def test_second_example(self):
        told = [
            takes_all(CHAIN, SHELVES, Store((12, 3))), parting_lot(CHAIN, SHELVES, Store((12, 3))) == Lot({6: 6}),
            takes_all((1,), SHELVES, Store((12, 3))),
        ]
        self.assertEqual(told, [False, True, True])

    def test_third_example(self):
        told = [common_store(CHAIN, SHELVES, Store((12, 3))).runs, joint_store(CHAIN, SHELVES, Store((12, 3))).runs]
        self.assertEqual(told, [((2, 3), (6, 5)), ((1, 3), (2, 1), (6, 6))])

    def test_fourth_example(self):
        told = [
            is_easier(Lot({1: 6}), Lot({2: 3})), is_easier(Lot({2: 3}), Lot({1: 6})),
            fits(Lot({2: 3}), parting_store(Lot({2: 3}), Lot({1: 6}))),
        ]
        self.assertEqual(told, [True, False, False])
        self.assertIs(fits(Lot({1: 6}), parting_store(Lot({2: 3}), Lot({1: 6}))), True)


class TestSmall(unittest.TestCase):
    """Small stores against looks at all small lots of the chain."""

    def test_profiles_and_plain_stores(self):
        for chain, rooms in itertools.product(CHAINS, small_rows()):
            store = store_of(rooms)
            told = tuple(sum(room // size for room in rooms) for size in chain)
            self.assertEqual(profile(chain, store), told)
            self.assertIs(is_profile(chain, told), True)
            plain = plain_store(chain, told)
            self.assertEqual((profile(chain, plain), is_plain(chain, plain)), (told, True))
            self.assertIs(are_alike(chain, store, plain), True)

    def test_every_small_tuple(self):
        for chain in CHAINS:
            # At most four units at the least size come from at most four rooms of less than five times this size.
            rows = all_rows([room for room in range(1, 5 * chain[0]) if room % chain[0] == 0], 4)
            told = {profile(chain, store_of(rooms)) for rooms in rows}
            for units in itertools.product(range(5), repeat=len(chain)):
                self.assertIs(is_profile(chain, units), units in told)
                if units in told:
                    self.assertEqual(profile(chain, plain_store(chain, units)), units)
                else:
                    self.assertEqual(raised(plain_store, chain, units), (InvalidOperation, None))

    def test_pairs_of_stores(self):
        rows = small_rows()[::2]
        for chain in CHAINS:
            lots = {rooms: taken(chain, rooms) for rooms in rows}
            for one, other in itertools.product(rows, rows):
                mine, theirs = store_of(one), store_of(other)
                takes = lots[one] >= lots[other]
                self.assertIs(takes_all(chain, mine, theirs), takes)
                self.assertIs(are_alike(chain, mine, theirs), lots[one] == lots[other])
                lot = parting_lot(chain, mine, theirs)
                if takes:
                    self.assertIsNone(lot)
                else:
                    self.assertEqual((len(lot), lot.sizes[0] in chain), (1, True))
                    things = lot.sizes * lot.number
                    self.assertEqual((can_fit(things, one), can_fit(things, other)), (False, True))

    def test_common_and_joint_stores(self):
        rows = small_rows()[::3]
        for chain in CHAINS:
            lots = {rooms: taken(chain, rooms) for rooms in rows}
            for one, other in itertools.product(rows, rows):
                mine, theirs = store_of(one), store_of(other)
                common, joint = common_store(chain, mine, theirs), joint_store(chain, mine, theirs)
                self.assertTrue(is_plain(chain, common) and is_plain(chain, joint))
                self.assertEqual(taken(chain, tuple(common.each_room())), lots[one] & lots[other])
                both = taken(chain, tuple(joint.each_room()))
                self.assertLessEqual(lots[one] | lots[other], both)
                for row in rows:
                    if lots[row] >= lots[one] | lots[other]:
                        self.assertLessEqual(both, lots[row])

    def test_easier_lots(self):
        stores = [(row, store_of(row)) for row in small_rows()]
        for sizes in ((1, 2, 4), (1, 3), (2, 4)):
            chosen = all_things(sizes, 4)
            where = {things: {row for row, _ in stores if can_fit(things, row)} for things in chosen}
            for one, other in itertools.product(chosen, chosen):
                lot, second = lot_of_things(one), lot_of_things(other)
                easier = is_easier(lot, second)
                shown = parting_store(lot, second)
                if easier:
                    self.assertLessEqual(where[other], where[one])
                    self.assertIsNone(shown)
                else:
                    rooms = tuple(shown.each_room())
                    self.assertEqual((can_fit(one, rooms), can_fit(other, rooms)), (False, True))


class TestEdges(unittest.TestCase):
    def test_no_rooms(self):
        for chain in CHAINS:
            nothing = (0,) * len(chain)
            self.assertEqual(profile(chain, Store()), nothing)
            self.assertEqual((is_profile(chain, nothing), plain_store(chain, nothing)), (True, Store()))
            self.assertEqual((common_store(chain, Store(), SHELVES), joint_store(chain, Store(), Store())), (Store(), Store()))
            self.assertTrue(takes_all(chain, SHELVES, Store()) and takes_all(chain, Store(), Store()))
            self.assertEqual((takes_all(chain, Store(), SHELVES), parting_lot(chain, SHELVES, Store())), (False, None))
        self.assertEqual(parting_lot((11, 22), Store(), SHELVES), None)
        self.assertIs(are_alike((11, 22), Store(), SHELVES), True)

    def test_rooms_that_no_size_divides(self):
        self.assertEqual(profile((3, 6), Store((11, 2), (2, 9))), (6, 2))
        self.assertEqual(plain_store((3, 6), (6, 2)).runs, ((3, 2), (6, 2)))
        self.assertEqual(profile((1,), Store((11, 2))), (22,))

    def test_near_profiles(self):
        for value in (
            [41, 19, 5], (41, 19), (41, 19, 5, 0), (), (41, 19, -1), (-1, 0, 0), (37, 19, 5), (41, 14, 5), 41, None, "41",
            (41, 19, True), (True, False, False), ((41,), 19, 5), (41, 19, None), (41, 19, "5"), {41: 1}, (TOO_LONG, 19, 5),
            (FAR_TOO_LONG, 0, 0), (41, 19, -LONGEST),
        ):
            self.assertIs(is_profile(CHAIN, value), False, value)
            self.assertEqual(raised(plain_store, CHAIN, value), (InvalidOperation, None))
        self.assertEqual([is_profile(CHAIN, units) for units in ((38, 19, 5), (41, 15, 5), (1, 0, 0))], [True] * 3)
        self.assertEqual(plain_store(CHAIN, (30, 15, 5)).runs, ((6, 5),))
        for value in all_values():
            self.assertIs(is_profile((5,), value), value == (1,))
            self.assertIs(is_profile((5,), (value,)), value in (0, 1, 2, 12, LONGEST) and not isinstance(value, bool))

    def test_twelve_sizes(self):
        store = Store(*[(1 + 53 * at, 1 + at % 3) for at in range(40)])
        told = profile(TWELVE, store)
        self.assertEqual(len(told), 12)
        self.assertEqual(profile(TWELVE, plain_store(TWELVE, told)), told)
        self.assertIs(is_profile(TWELVE, (4095,) + tuple(1 for _ in range(11))), False)
        self.assertIs(is_profile(TWELVE, TWELVE[::-1]), True)

    def test_what_is_not_true(self):
        # Stores with equal total space do not take the same lots.
        self.assertIs(are_alike((1, 6), Store((6, 1)), Store((3, 2))), False)
        self.assertIs(are_alike((1,), Store((6, 1)), Store((3, 2))), True)
        # Fewer and greater rooms, equal in sum, take more.
        self.assertEqual([takes_all(CHAIN, Store((8, 1), (4, 1)), Store((6, 2))), takes_all(CHAIN, Store((12, 1)), Store((6, 2)))],
                         [False, True])

    def test_easier_lots_of_more_than_twelve_sizes(self):
        one, other = Lot({4 ** k: 1 for k in range(12)}), Lot({2 * 4 ** k: 1 for k in range(12)})
        self.assertEqual((is_easier(one, other), is_easier(other, one)), (True, False))
        self.assertIs(fits(one, parting_store(other, one)), True)
        self.assertIs(fits(other, parting_store(other, one)), False)

    def test_the_empty_lot(self):
        self.assertEqual((is_easier(Lot(), Lot()), parting_store(Lot(), Lot())), (True, None))
        self.assertEqual((is_easier(Lot(), Lot({5: 1})), is_easier(Lot({5: 1}), Lot())), (True, False))
        shown = parting_store(Lot({5: 1}), Lot())
        self.assertEqual((fits(Lot({5: 1}), shown), fits(Lot(), shown)), (False, True))
        self.assertEqual((is_easier(Lot({5: 2}), Lot({5: 2})), parting_store(Lot({5: 2}), Lot({5: 3}))), (True, None))


class TestGreat(unittest.TestCase):
    def test_great_numbers(self):
        for figures in (20, 100, 199):
            great = 10 ** (figures - 1)
            chain = (3, 3 * great, 6 * great)
            one, other = Store((7 * great, great), (4, great)), Store((3 * great + 2, 5))
            third = great * (7 * great // 3) + great
            self.assertEqual(profile(chain, one), (third, 2 * great, great))
            if figures < 100:
                self.assertEqual(plain_store(chain, profile(chain, one)).runs[1:], ((6 * great, great),))
            self.assertEqual((takes_all(chain, one, other), takes_all(chain, other, one)), (True, False))
            self.assertEqual(parting_lot(chain, other, one), Lot({6 * great: 1}))
            self.assertEqual(common_store(chain, one, other).runs, ((3 * great, 5),))
            self.assertEqual(are_alike(chain, other, Store((3 * great, 5))), True)
            lot, second = Lot({3: great, 3 * great: great}), Lot({6 * great: great})
            self.assertEqual((is_easier(lot, second), is_easier(second, lot)), (True, False))
            shown = parting_store(second, lot)
            self.assertEqual((fits(second, shown), fits(lot, shown)), (False, True))

    def test_longest_numbers(self):
        store = Store((LONGEST, LONGEST))
        self.assertEqual(profile((1, LONGEST), store), (LONGEST ** 2, LONGEST))
        # The profile has a number of 400 digits, but the plain store has none.
        self.assertEqual(common_store((1, LONGEST), store, store), store)
        self.assertEqual(joint_store((1, LONGEST), store, store), store)
        self.assertEqual((takes_all((1, LONGEST), store, store), parting_lot((1, LONGEST), store, store)), (True, None))
        self.assertEqual(parting_lot((1, LONGEST), Store((LONGEST, LONGEST - 1)), store), Lot({LONGEST: LONGEST}))
        self.assertEqual(plain_store((1, LONGEST), (LONGEST, 1)), Store((LONGEST, 1)))
        self.assertEqual(plain_store((1,), (LONGEST,)), Store((1, LONGEST)))


class TestWrongInputs(unittest.TestCase):
    def test_chains(self):
        for value in not_sizes():
            for call in (profile, is_profile, plain_store):
                self.assertEqual(raised(call, value, None), (InvalidSizes, None))
            for call in PAIRS:
                self.assertEqual(raised(call, value, None, None), (InvalidSizes, None))
        for value, gap in not_chains():
            for call in (profile, is_profile, plain_store):
                self.assertEqual(raised(call, value, None), (NoChain, gap))
            for call in PAIRS:
                self.assertEqual(raised(call, value, None, None), (NoChain, gap))

    def test_stores(self):
        for value in not_stores():
            self.assertEqual(raised(profile, CHAIN, value), (InvalidStore, None))
            for call in PAIRS:
                self.assertEqual(raised(call, CHAIN, value, SHELVES), (InvalidStore, None))
                self.assertEqual(raised(call, CHAIN, SHELVES, value), (InvalidStore, None))

    def test_lots(self):
        for value in not_lots():
            for call in (is_easier, parting_store):
                self.assertEqual(raised(call, value, Lot({2: 1})), (InvalidLot, None))
                self.assertEqual(raised(call, Lot({2: 1, 3: 1}), value), (InvalidLot, None))

    def test_lots_that_are_not_chained_together(self):
        for call in (is_easier, parting_store):
            self.assertEqual(raised(call, Lot({2: 1}), Lot({3: 1})), (NoChain, (2, 3)))
            self.assertEqual(raised(call, Lot({2: 1, 8: 1}), Lot({12: 1})), (NoChain, (8, 12)))
            self.assertEqual(raised(call, Lot({12: 1}), Lot({2: 1, 8: 1})), (NoChain, (8, 12)))
            self.assertEqual(raised(call, Lot(), Lot({2: 1, 5: 1})), (NoChain, (2, 5)))
            self.assertEqual(raised(call, Lot({2: 1, 5: 1}), Lot({4: 1})), (NoChain, (4, 5)))

    def test_nothing_changes(self):
        store, other = Store((10, 2), (7, 3)), Store((12, 3))
        for call in PAIRS:
            self.assertEqual(call(CHAIN, store, other), call(CHAIN, store, other))
            self.assertEqual((store, other), (SHELVES, Store((12, 3))))


if __name__ == "__main__":
    unittest.main()
