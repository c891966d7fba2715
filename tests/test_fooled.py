"""Stage 9: lots that fool a rule, with the promises 0.1 to 0.7, 0.10, 0.13, 0.14, 9.1 and 9.2."""

import itertools
import unittest

from chainpacks.decide.fooled import fooled_lot, fooled_number, fooling_pairs, is_fooled_lot, is_safe_paper, safe_paper
from chainpacks.errors import InvalidOperation, InvalidSizes
from chainpacks.pack.packings import Packing, is_packing_of
from chainpacks.pack.rules import RULES, pack
from chainpacks.things.lots import Lot
from chainpacks.things.stores import Store
from walks import all_holds, all_rows, all_things, can_fit, lot_of_things, packing_of, store_of, walk
from wrong_values import LONGEST, all_values, not_chains, not_lots, not_sizes, not_stores, raised

TOLD = (Lot({2: 2, 3: 1}), Store((4, 1), (3, 1)), Packing((4, 1, ((2, 2),)), (3, 1, ((3, 1),))))
TWELVE = tuple(2 ** k for k in range(12))
CHAINS = [(1,), (5,), (LONGEST,), (1, 2, 6), (3, 6), (1, LONGEST), TWELVE]
OTHERS = [
    (2, 3), (2, 9), (4, 6, 9), (3, 4, 5), (5, 7), (1, 2, 3), (1, 10, 25), (7, 100), (2, 3, 1000), tuple(range(1, 13)),
    tuple(range(2, 14)), TWELVE[:11] + (1026,), (2, 4, 8, 12), (10, 15, 100, 1001), (99, 100), (50, 101),
]


class TestExamples(unittest.TestCase):
    def test_first_example(self):
        told = [
            fooled_number((2, 3)), fooled_number((1, 2, 6)), fooling_pairs((4, 6, 9)), fooled_number((2, 9)),
            safe_paper((1, 2, 6)), safe_paper((5,)),
        ]
        self.assertEqual(told, [3, None, ((4, 6, 3), (4, 9, 4), (6, 9, 3)), 6, ("chain", (2, 3)), ("chain", ())])

    def test_second_example(self):
        told = [
            is_fooled_lot((2, 3), TOLD), is_fooled_lot((2, 3), TOLD, rule="tightest"),
            is_safe_paper((2, 3), ("fooled", *TOLD)), fooled_lot((1, 2, 6), rule="tightest"),
        ]
        self.assertEqual(told, [True, False, True, None])

    def test_third_example(self):
        told = [
            fooled_lot((2, 9))[0].number, is_fooled_lot((2, 9), fooled_lot((2, 9), rule="last"), rule="last"),
            safe_paper((2, 9))[0],
        ]
        self.assertEqual(told, [6, True, "fooled"])


class TestPairs(unittest.TestCase):
    def test_all_small_sizes(self):
        for many in range(1, 5):
            for sizes in itertools.combinations(range(1, 10), many):
                told = tuple(
                    (low, high, high // low + 2) for low, high in itertools.combinations(sizes, 2) if high % low
                )
                self.assertEqual(fooling_pairs(sizes), told)
                self.assertEqual(list(told), sorted(told))
                self.assertEqual(fooled_number(sizes), min((number for _, _, number in told), default=None))

    def test_chains(self):
        for sizes in CHAINS:
            self.assertEqual((fooling_pairs(sizes), fooled_number(sizes)), ((), None))
            for rule in RULES:
                self.assertIsNone(fooled_lot(sizes, rule=rule))

    def test_just_one_pair(self):
        self.assertEqual(fooling_pairs((1, 2, 3)), ((2, 3, 3),))
        self.assertEqual(fooling_pairs((2, 4, 8, 12)), ((8, 12, 3),))
        self.assertEqual(fooling_pairs((3, 9, 10 ** 50 + 5)), ((9, 10 ** 50 + 5, 10 ** 50 // 9 + 2),))


class TestFewestThings(unittest.TestCase):
    """No lot with fewer things fools the rule: a look at all lots and at many stores."""

    def check(self, sizes, most, rows):
        number = fooled_number(sizes)
        for things in all_things(sizes, most):
            order = sorted(things, reverse=True)
            for rooms in rows:
                packed = walk(order, rooms, "first")[1]
                if packed < len(things) and can_fit(things, rooms):
                    self.assertIsNotNone(number)
                    self.assertGreaterEqual(len(things), number)

    def test_two_rooms(self):
        for sizes in ((2, 3), (3, 4), (2, 5), (3, 7), (4, 6, 9), (1, 2, 4), (1, 2, 5), (3, 6), (2, 3, 4)):
            self.check(sizes, 4, all_rows(range(1, 16), 2))

    def test_three_rooms(self):
        for sizes in ((2, 3), (2, 5), (1, 2, 4), (1, 3, 5)):
            self.check(sizes, 4, all_rows(range(2, 11), 3))

    def test_the_told_number_is_reached(self):
        for many in (2, 3, 4):
            for sizes in itertools.combinations(range(1, 11), many):
                told = fooled_lot(sizes)
                if told is None:
                    self.assertIsNone(fooled_number(sizes))
                else:
                    self.assertEqual(told[0].number, fooled_number(sizes))
                    things = [size for size in told[0].sizes[::-1] for _ in range(told[0][size])]
                    self.assertLess(walk(things, list(told[1].each_room()), "first")[1], len(things))
                    self.assertIs(can_fit(things, list(told[1].each_room())), True)


class TestLots(unittest.TestCase):
    def check(self, sizes, rule):
        lot, store, packing = fooled_lot(sizes, rule=rule)
        self.assertIsInstance(fooled_lot(sizes, rule=rule), tuple)
        self.assertIs(is_packing_of(lot, store, packing), True)
        self.assertTrue(all(size in sizes for size in lot.sizes))
        self.assertGreater(pack(lot, store, rule=rule)[1].number, 0)
        self.assertIs(is_fooled_lot(sizes, (lot, store, packing), rule=rule), True)
        self.assertGreaterEqual(lot.number, fooled_number(sizes))
        self.assertLessEqual(max(len(store), len(packing)), 10)
        most = sizes[-1] + 2
        self.assertTrue(all(count <= most for count in lot.counts.values()))
        self.assertTrue(all(many <= most for _, many in store.runs))
        for _, many, filling in packing.runs:
            self.assertTrue(all(count <= most for count in [many] + [count for _, count in filling]))
        if rule == "first":
            self.assertEqual(lot.number, fooled_number(sizes))
            self.assertEqual(fooled_lot(sizes), (lot, store, packing))
            self.assertIs(is_fooled_lot(sizes, (lot, store, packing)), True)

    def test_each_rule(self):
        for sizes, rule in itertools.product(OTHERS, RULES):
            self.check(sizes, rule)

    def test_all_small_sizes(self):
        for many in (2, 3):
            for sizes in itertools.combinations(range(1, 13), many):
                if fooling_pairs(sizes):
                    for rule in RULES:
                        self.check(sizes, rule)

    def test_great_sizes(self):
        for figures in (20, 100, 199):
            great = 10 ** (figures - 1)
            for sizes in (
                (great, great + 1), (2, great + 1), (3, 6 * great, 6 * great + 9), (7, great), (great, 3 * great + 1, 9 * great),
                (1, great, 2 * great, 9 * great - 1),
            ):
                for rule in RULES:
                    self.check(sizes, rule)

    def test_sizes_of_200_digits(self):
        great = 10 ** 199
        for sizes in ((great, great + 1), (2, great + 1), (great + 7, 3 * great), (3, 6, LONGEST - 10), (5, 8, LONGEST)):
            for rule in RULES:
                self.check(sizes, rule)


def least_greatest_room(sizes, numbers, rule):
    """The least greatest room of a store by which a lot of so many things fools the rule, from a look at all."""
    for room in itertools.count(1):
        for number in numbers:
            for things in itertools.combinations_with_replacement(sizes, number):
                order = sorted(things, reverse=True)
                for rooms in all_rows(range(sizes[0], room + 1), 2):
                    if room in rooms and sum(rooms) >= sum(things) and walk(order, rooms, rule)[1] < number:
                        if can_fit(things, rooms):
                            return room


class TestLongSizes(unittest.TestCase):
    """Sizes that are so long that only lots with the least rooms can be made."""

    def check(self, sizes, rule, room):
        """There is a lot if each size is taken times a number with which the least greatest room is just short enough."""
        factor = LONGEST // room
        long_sizes = tuple(size * factor for size in sizes)
        told = fooled_lot(long_sizes, rule=rule)
        self.assertIs(is_fooled_lot(long_sizes, told, rule=rule), True)
        self.assertLessEqual(told[1].greatest, room * factor)
        if rule == "first":
            self.assertEqual(told[0].number, fooled_number(sizes))
            self.assertIs(is_safe_paper(long_sizes, safe_paper(long_sizes)), True)

    def test_first(self):
        for many in (2, 3):
            for sizes in itertools.combinations(range(2, 10), many):
                number = fooled_number(sizes)
                if number in (3, 4):
                    room = least_greatest_room(sizes, (number,), "first")
                    self.check(sizes, "first", max(room, sizes[-1]))

    def test_last_and_tightest(self):
        for sizes in ((2, 3), (2, 5), (3, 4), (4, 6), (2, 3, 4), (2, 5, 6), (3, 6, 7), (2, 4, 5), (3, 4, 5), (1, 3, 5), (2, 4, 7)):
            for rule in ("last", "tightest"):
                room = least_greatest_room(sizes, (3, 4, 5), rule)
                self.check(sizes, rule, max(room, sizes[-1]))

    def test_three_sizes(self):
        for small, room, number in (
            ((2, 5, 6), 7, 3), ((3, 6, 7), 9, 3), ((3, 7, 8), 10, 3), ((4, 8, 9), 12, 3), ((2, 4, 9), 10, 4), ((2, 6, 19), 20, 5),
        ):
            sizes = tuple(size * (LONGEST // room) for size in small)
            told = fooled_lot(sizes)
            self.assertEqual((told[0].number, told[0].sizes), (number, sizes))
            self.assertIs(is_fooled_lot(sizes, told), True)
            self.assertIs(is_safe_paper(sizes, safe_paper(sizes)), True)

    def test_a_short_pair_beside_long_sizes(self):
        for sizes in ((2, 9, 6 * 10 ** 199, 9 * 10 ** 199), (3, 4, 5 * 10 ** 199, 7 * 10 ** 199 + 1)):
            told = fooled_lot(sizes, rule="last")
            self.assertIs(is_fooled_lot(sizes, told, rule="last"), True)
            told = fooled_lot(sizes, rule="tightest")
            self.assertIs(is_fooled_lot(sizes, told, rule="tightest"), True)


class TestJudges(unittest.TestCase):
    """The judges against looks at all packings."""

    def test_every_small_triple(self):
        for sizes in ((2, 3), (1, 3, 4), (1, 2, 4)):
            rows = ((4, 3), (3, 4), (7, 6), (6, 7), (5,), (3, 3, 4), (6, 4, 3))
            for things, rooms in itertools.product(all_things(sizes, 4), rows):
                lot, store = lot_of_things(things), store_of(rooms)
                order = sorted(things, reverse=True)
                for rule in RULES:
                    fooled = walk(order, rooms, rule)[1] < len(things)
                    for holds in all_holds(things, rooms)[:6]:
                        value = (lot, store, packing_of(rooms, holds))
                        self.assertIs(is_fooled_lot(sizes, value, rule=rule), fooled)
                        good = fooled and len(things) == fooled_number(sizes)
                        if rule == "first":
                            self.assertIs(is_safe_paper(sizes, ("fooled", *value)), good)

    def test_lots_of_many_things(self):
        lot, store = Lot({2: 2 * 10 ** 99, 3: 10 ** 99}), Store((4, 10 ** 99), (3, 10 ** 99))
        packing = Packing((4, 10 ** 99, ((2, 2),)), (3, 10 ** 99, ((3, 1),)))
        self.assertIs(is_fooled_lot((2, 3), (lot, store, packing)), True)
        self.assertIs(is_fooled_lot((2, 3, 7), (lot, store, packing)), True)
        self.assertIs(is_fooled_lot((2, 3), (lot, store, packing), rule="last"), False)
        self.assertIs(is_safe_paper((2, 3), ("fooled", lot, store, packing)), False)

    def test_near_triples(self):
        lot, store, packing = TOLD
        for value in (
            None, (lot, store), (lot, store, packing, packing), [lot, store, packing], (lot, store, packing.backward()),
            (lot + Lot({2: 1}), store, packing), (lot - Lot({2: 1}), store, packing), (lot, store.backward(), packing),
            (lot, store.backward(), packing.backward()), (store, lot, packing), (lot.counts, store, packing),
            (lot, store.runs, packing), (lot, store, packing.runs), (lot, store, None), ("fooled", lot, store, packing),
            (lot, store + Store((2, 1)), packing.joined(Packing((2, 1, ())))), (None, store, packing), (lot, None, packing),
            (lot, store + Store((1, 1)), packing),
        ):
            self.assertIs(is_fooled_lot((2, 3), value), False, value)
        for value in all_values():
            self.assertIs(is_fooled_lot((2, 3), value), False)
            self.assertIs(is_fooled_lot((2, 3), (value, store, packing)), False)
            self.assertIs(is_fooled_lot((2, 3), (lot, value, packing)), False)
            self.assertIs(is_fooled_lot((2, 3), (lot, store, value)), False)
        self.assertIs(is_fooled_lot((2, 3), (lot, store + Store((1, 1)), packing.joined(Packing((1, 1, ()))))), True)
        self.assertIs(is_fooled_lot((2, 4), TOLD), False)
        self.assertIs(is_fooled_lot((3, 4), TOLD), False)
        self.assertIs(is_fooled_lot((1, 2, 3, 5), TOLD), True)
        self.assertIs(is_fooled_lot((1, 2, 6), TOLD), False)

    def test_packings_too_great_for_a_lot(self):
        packing = Packing((LONGEST, LONGEST, ((2, LONGEST // 2),)))
        self.assertIs(is_fooled_lot((2, 3), (TOLD[0], Store((LONGEST, LONGEST)), packing)), False)


class TestSafePapers(unittest.TestCase):
    def test_papers(self):
        for sizes in CHAINS:
            steps = tuple(high // low for low, high in zip(sizes, sizes[1:]))
            self.assertEqual(safe_paper(sizes), ("chain", steps))
            self.assertIs(is_safe_paper(sizes, ("chain", steps)), True)
            self.assertIs(is_safe_paper(sizes, ("fooled", *TOLD)), False)
        for sizes in OTHERS:
            paper = safe_paper(sizes)
            self.assertEqual((len(paper), paper[0], paper[1].number), (4, "fooled", fooled_number(sizes)))
            self.assertIs(is_fooled_lot(sizes, paper[1:]), True)
            self.assertIs(is_safe_paper(sizes, paper), True)
            steps = tuple(high // low for low, high in zip(sizes, sizes[1:]))
            self.assertIs(is_safe_paper(sizes, ("chain", steps)), False)

    def test_papers_that_are_none(self):
        for value in (
            ("chain", (2, 3), ()), ("chain",), ("chain", [2, 3]), ["chain", (2, 3)], ("chain", (2, 2)), ("chain", (3, 2)),
            ("chain", (2,)), ("chain", (2, 3, 1)), ("chain", ()), ("chain", None), ("Chain", (2, 3)), ((2, 3), "chain"), (),
            ("chain", (2, "3")), ("chain", ((2, 3),)), ("chain", 2, 3), "chain", ("fooled",), ("chain", (True, 2, 3)),
        ):
            self.assertIs(is_safe_paper((1, 2, 6), value), False, value)
        lot, store, packing = TOLD
        for value in (
            TOLD, ("fooled", TOLD), ("fooled", *TOLD, None), ["fooled", *TOLD], ("fooled", lot, store), ("fooled",), (),
            ("Fooled", *TOLD), ("chain", *TOLD), ("fooled", lot, store, packing.backward()), ("fooled", lot, packing, store),
            ("fooled", lot, store.backward(), packing.backward()), ("fooled", lot, store, None), ("fooled", None, None, None),
        ):
            self.assertIs(is_safe_paper((2, 3), value), False)
        for value in all_values():
            self.assertIs(is_safe_paper((2, 3), value), False)
            self.assertIs(is_safe_paper((1, 2, 6), value), False)
            self.assertIs(is_safe_paper((1, 2, 6), (value, (2, 3))), False)
            self.assertIs(is_safe_paper((1, 2, 6), ("chain", value)), False)
            self.assertIs(is_safe_paper((2, 3), (value, *TOLD)), False)

    def test_more_things_than_needed(self):
        lot, store, packing = TOLD
        more = ("fooled", lot * 2, Store((4, 2), (3, 2)), Packing((4, 2, ((2, 2),)), (3, 2, ((3, 1),))))
        self.assertIs(is_fooled_lot((2, 3), more[1:]), True)
        self.assertIs(is_safe_paper((2, 3), more), False)
        self.assertIs(is_safe_paper((2, 3, 7), ("fooled", *TOLD)), True)
        # With the sizes 2 and 9 a lot of six things is a least one; with 4 too there are lots of four things.
        six = fooled_lot((2, 9))
        self.assertIs(is_safe_paper((2, 9), ("fooled", *six)), True)
        self.assertEqual((fooled_number((2, 4, 9)), is_fooled_lot((2, 4, 9), six)), (4, True))
        self.assertIs(is_safe_paper((2, 4, 9), ("fooled", *six)), False)

    def test_the_other_rules_need_not_have_the_least(self):
        lot, store, packing = fooled_lot((3, 4), rule="tightest")
        self.assertIs(is_fooled_lot((3, 4), (lot, store, packing), rule="tightest"), True)
        self.assertEqual(pack(lot, store, rule="tightest")[1].number, 1)


class TestWrongInputs(unittest.TestCase):
    def test_sizes(self):
        for value in not_sizes():
            for call in (fooling_pairs, fooled_number, safe_paper, lambda sizes: fooled_lot(sizes, rule=None)):
                self.assertEqual(raised(call, value), (InvalidSizes, None))
            self.assertEqual(raised(lambda: is_fooled_lot(value, None, rule=None)), (InvalidSizes, None))
            self.assertEqual(raised(is_safe_paper, value, None), (InvalidSizes, None))

    def test_rules(self):
        for sizes in ((2, 3), (1, 2)):
            for value in all_values() + ["widest", "First", "", ("first",)]:
                self.assertEqual(raised(lambda: fooled_lot(sizes, rule=value)), (InvalidOperation, None))
                self.assertEqual(raised(lambda: is_fooled_lot(sizes, TOLD, rule=value)), (InvalidOperation, None))
                self.assertEqual(raised(lambda: is_fooled_lot(sizes, None, rule=value)), (InvalidOperation, None))

    def test_sizes_without_a_chain_are_fine(self):
        for sizes, gap in not_chains():
            if sizes[-1] < 10 ** 100:
                self.assertIn(gap, [pair[:2] for pair in fooling_pairs(sizes)])
                self.assertIs(is_safe_paper(sizes, safe_paper(sizes)), True)

    def test_values_are_never_refused(self):
        for value in not_lots() + not_stores():
            self.assertIs(is_fooled_lot((2, 3), (value, value, value)), False)

    def test_nothing_changes(self):
        sizes = (4, 6, 9)
        for rule in RULES:
            self.assertEqual(fooled_lot(sizes, rule=rule), fooled_lot(sizes, rule=rule))
        self.assertEqual((sizes, safe_paper(sizes)), ((4, 6, 9), safe_paper((4, 6, 9))))


if __name__ == "__main__":
    unittest.main()
