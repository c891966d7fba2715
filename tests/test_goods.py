"""Stage 12: goods, with the promises 0.1 to 0.8, 0.10 to 0.12, 12.1 and 12.2."""

import itertools
import unittest

from chainpacks.decide.levels import fits
from chainpacks.errors import InvalidLot, InvalidNumber, InvalidOperation, InvalidSizes, InvalidStore, ParseError
from chainpacks.things.lots import Lot
from chainpacks.things.stores import Store
from chainpacks.worth.goods import (
    Goods, best_choice, best_full, best_worth, full_choice, is_best_choice, is_full_choice, least_full, worths_of,
)
from walks import can_fit, store_of
from wrong_values import (
    FAR_TOO_LONG, LONGEST, TOO_LONG, all_values, not_chains, not_counts, not_goods, not_pairs_of_sizes, not_size_values,
    not_stores, raised,
)

COUNTS = {(1, 3): 2, (1, 1): 4, (2, 5): 1, (6, 11): 1, (6, 10): 2}
GOODS = Goods(COUNTS)
LINES = (
    "size 1 worth 1 many 4", "size 1 worth 3 many 2", "size 2 worth 5 many 1", "size 6 worth 10 many 2", "size 6 worth 11 many 1",
)
FORTY = Goods({(2 ** (at % 10), 1 + at * 7 % 31): 1 + at % 5 for at in range(40)})
FORTY_RUNS = Store(*[(5 + at % 2, 3) for at in range(40)])
ROWS = [(), (1,), (5,), (7,), (6, 3), (3, 3), (2, 7), (4, 4, 1)]
# Goods of few things, with gains that grow faster and slower than their sizes.
SMALL = [
    {}, {(1, 1): 3}, {(3, 2): 2}, {(1, 1): 2, (2, 3): 2}, {(1, 3): 2, (1, 1): 2, (2, 5): 1, (4, 7): 1},
    {(2, 1): 1, (2, 4): 1, (4, 5): 1, (4, 1): 1}, {(1, 2): 4, (3, 5): 1, (6, 13): 1}, {(1, 1): 3, (3, 9): 2, (3, 1): 1},
    {(2, 7): 2, (6, 20): 1, (6, 22): 1}, {(1, 5): 1, (1, 4): 1, (1, 1): 3, (2, 7): 1, (2, 2): 1, (4, 3): 1},
    {(1, 1): 1, (2, 2): 1, (4, 4): 1, (8, 8): 1}, {(5, 1): 1, (5, 2): 2, (5, 3): 1},
]


def choices_from(counts):
    """All choices from goods, as dicts."""
    kinds = sorted(counts)
    for taken in itertools.product(*[range(counts[kind] + 1) for kind in kinds]):
        yield {kind: many for kind, many in zip(kinds, taken) if many}


def things_of(counts):
    """The single sizes of the things of goods."""
    return [size for (size, _), many in counts.items() for _ in range(many)]


def worth_of(counts):
    """The worth of all things of goods."""
    return sum(worth * many for (_, worth), many in counts.items())


class TestExamples(unittest.TestCase):
    def test_first_example(self):
        told = [
            str(GOODS), GOODS.load, GOODS.worth, best_worth(GOODS, Store((7, 1))), best_worth(GOODS, Store((10, 1), (1, 1))),
            (6, 10) in GOODS,
        ]
        self.assertEqual(told, ["goods of 5 kinds, worth 46", 26, 46, 14, 23, True])

    def test_second_example(self):
        told = [
            best_choice(GOODS, Store((8, 1))).counts, is_best_choice(GOODS, Store((6, 1)), Goods({(1, 3): 2, (1, 1): 2, (2, 5): 1})),
            worths_of(GOODS, Store((7, 1)), (1, 6)),
        ]
        self.assertEqual(told, [{(1, 3): 2, (6, 11): 1}, True, (17, 25)])

    def test_third_example(self):
        told = [
            best_full(GOODS, 8), least_full(GOODS, 8), best_full(GOODS, 27), least_full(GOODS, 1),
            is_full_choice(GOODS, 12, Goods({(6, 11): 1, (6, 10): 1})),
        ]
        self.assertEqual(told, [17, 12, None, 1, False])


class TestClass(unittest.TestCase):
    def test_properties(self):
        self.assertEqual(list(GOODS.counts.items()), [((1, 1), 4), ((1, 3), 2), ((2, 5), 1), ((6, 10), 2), ((6, 11), 1)])
        self.assertEqual(GOODS.lines, LINES)
        self.assertEqual((GOODS.lot, GOODS.load, GOODS.worth), (Lot({1: 6, 2: 1, 6: 3}), 26, 46))
        self.assertEqual((len(GOODS), list(GOODS)), (5, [(1, 1), (1, 3), (2, 5), (6, 10), (6, 11)]))
        empty = Goods({})
        self.assertEqual((empty.counts, empty.lines, empty.lot, empty.load, empty.worth), ({}, (), Lot(), 0, 0))
        self.assertEqual((len(empty), list(empty), str(empty)), (0, [], "goods of 0 kinds, worth 0"))

    def test_lines(self):
        for lines in itertools.permutations(LINES, 5):
            self.assertEqual(Goods.from_lines(*lines), GOODS)
        self.assertEqual(Goods.from_lines(), Goods({}))
        great = Goods({(LONGEST, LONGEST): LONGEST})
        self.assertEqual(Goods.from_lines(*great.lines), great)
        self.assertEqual(great.lines, (f"size {LONGEST} worth {LONGEST} many {LONGEST}",))

    def test_lines_that_are_none(self):
        for line in all_values() + [
            "size 6 worth 10 many 0", "size 0 worth 10 many 2", "size 6 worth 0 many 2", "size 6 worth 10", "size 6 many 2",
            "size 06 worth 10 many 2", "size 6 worth 10 many 02", " size 6 worth 10 many 2", "size 6 worth 10 many 2 ",
            "size  6 worth 10 many 2", "size 6 worth 10 many 2\n", "Size 6 worth 10 many 2", "size 6 worth -1 many 2",
            f"size 6 worth {TOO_LONG} many 2", f"size {FAR_TOO_LONG} worth 1 many 2", f"size 6 worth 1 many {TOO_LONG}",
            "size +6 worth 10 many 2", "size 6 worth 10 many 2 hold 1", "worth 6 size 10 many 2", "size 6 worth 1_0 many 2", "goods",
        ]:
            self.assertEqual(raised(Goods.from_lines, line), (ParseError, 0))
            self.assertEqual(raised(Goods.from_lines, LINES[0], line, None), (ParseError, 1))
        # A line with an earlier pair is none, also with another number; another worth is another pair.
        self.assertEqual(raised(Goods.from_lines, LINES[0], LINES[1], "size 1 worth 1 many 9"), (ParseError, 2))
        self.assertEqual(raised(Goods.from_lines, "size 2 worth 1 many 1", "size 3 worth 1 many 1", "x"), (ParseError, 2))
        self.assertEqual(raised(Goods.from_lines, "size 2 worth 1 many 1", "size 3 worth 1 many 1"), (InvalidLot, None))
        lines = [f"size 2 worth {worth} many 1" for worth in range(1, 42)]
        self.assertEqual(raised(Goods.from_lines, *lines), (InvalidLot, None))
        self.assertEqual(len(Goods.from_lines(*lines[:40])), 40)

    def test_what_is_in_them(self):
        self.assertTrue(all(kind in GOODS for kind in COUNTS))
        for value in all_values() + [(1, 2), (6, 12), (3, 1), [1, 1], (1, 1, 4), (True, 1), (1, True), (6, None), ((1, 1),), 6]:
            self.assertIs(value in GOODS, False)
        self.assertIs((1, 2) in Goods({(1, 2): 1}), True)
        self.assertIs((True, 2) in Goods({(1, 2): 1}), False)

    def test_equal_goods(self):
        self.assertEqual(GOODS, Goods({kind: COUNTS[kind] for kind in sorted(COUNTS)}))
        for value in all_values() + [COUNTS, LINES, Goods({(1, 3): 2}), GOODS.lot, Goods({})]:
            self.assertIs(GOODS == value, False)
            self.assertIs(GOODS != value, True)
        self.assertIs(Goods({}) == Goods({}), True)

    def test_choices(self):
        for counts in SMALL:
            goods = Goods(counts)
            for choice in choices_from(counts):
                self.assertIs(goods.is_choice(Goods(choice)), True)
                left = goods.less(Goods(choice))
                self.assertEqual(left, Goods({kind: many - choice.get(kind, 0) for kind, many in counts.items() if many > choice.get(kind, 0)}))
            for kind in counts:
                more = Goods({**counts, kind: counts[kind] + 1})
                self.assertIs(goods.is_choice(more), False)
                self.assertEqual(raised(goods.less, more), (InvalidOperation, None))
        for value in not_goods() + [COUNTS, Goods({(1, 2): 1}), Goods({(3, 1): 1}), Goods({(6, 11): 2}), GOODS.lot]:
            self.assertIs(GOODS.is_choice(value), False)
            self.assertEqual(raised(GOODS.less, value), (InvalidOperation, None))

    def test_wrong_counts(self):
        for value in all_values() + [[((1, 1), 1)], COUNTS.items(), {1: 1}, {(1,): 1}, {(1, 1, 1): 1}, GOODS, "size 1 worth 1 many 1"]:
            if value != {}:
                self.assertEqual(raised(Goods, value), (InvalidLot, None))
        for pair in not_pairs_of_sizes():
            if isinstance(pair, (int, str, tuple)) and not any(isinstance(each, (list, dict, Lot, Store)) for each in nested(pair)):
                self.assertEqual(raised(Goods, {pair: 1}), (InvalidLot, None))
                self.assertEqual(raised(Goods, {(1, 5): 1, pair: 1}), (InvalidLot, None))
        for count in not_size_values():
            self.assertEqual(raised(Goods, {(1, 1): count}), (InvalidLot, None))
            self.assertEqual(raised(Goods, {(1, 1): 1, (2, 1): count}), (InvalidLot, None))
        for sizes, _ in not_chains():
            self.assertEqual(raised(Goods, {(size, 5): 1 for size in sizes}), (InvalidLot, None))
        thirteen = {(2 ** k, 1): 1 for k in range(13)}
        self.assertEqual(raised(Goods, thirteen), (InvalidLot, None))
        self.assertEqual(len(Goods({kind: 1 for kind in list(thirteen)[:12]})), 12)
        forty = {(2, worth): 1 for worth in range(1, 41)}
        self.assertEqual(len(Goods(forty)), 40)
        self.assertEqual(raised(Goods, {**forty, (2, 41): 1}), (InvalidLot, None))

    def test_nothing_is_shared(self):
        counts = {(1, 1): 4, (2, 5): 1}
        goods = Goods(counts)
        counts[(1, 1)] = 9
        counts[(3, 1)] = 1
        goods.counts[(1, 1)] = 7
        goods.counts.clear()
        self.assertEqual(goods.counts, {(1, 1): 4, (2, 5): 1})
        self.assertIsNot(goods.counts, goods.counts)


def nested(value):
    """All values in a tuple, however deep."""
    return [each for part in value for each in nested(part)] if isinstance(value, tuple) else [value]


class TestSmall(unittest.TestCase):
    """Goods of few things against a look at all choices."""

    def test_best(self):
        for counts, rooms in itertools.product(SMALL, ROWS):
            goods, store = Goods(counts), store_of(rooms)
            fitting = [choice for choice in choices_from(counts) if can_fit(things_of(choice), rooms)]
            best = max(worth_of(choice) for choice in fitting)
            self.assertEqual(best_worth(goods, store), best, (counts, rooms))
            told = best_choice(goods, store)
            self.assertEqual((goods.is_choice(told), fits(told.lot, store), told.worth), (True, True, best))
            for choice in choices_from(counts):
                good = worth_of(choice) == best and choice in fitting
                self.assertIs(is_best_choice(goods, store, Goods(choice)), good)

    def test_worths(self):
        for counts, rooms in itertools.product(SMALL, ROWS[:5]):
            told = tuple(best_worth(Goods(counts), store_of(rooms + (room,))) for room in (1, 2, 3, 7, 1))
            self.assertEqual(worths_of(Goods(counts), store_of(rooms), (1, 2, 3, 7, 1)), told)

    def test_full(self):
        for counts in SMALL:
            goods = Goods(counts)
            choices = list(choices_from(counts))
            for total in range(goods.load + 3):
                full = [choice for choice in choices if sum(things_of(choice)) == total]
                worths = [worth_of(choice) for choice in full]
                told = (best_full(goods, total), least_full(goods, total))
                self.assertEqual(told, (max(worths, default=None), min(worths, default=None)))
                for least in (False, True):
                    one = full_choice(goods, total, least=least)
                    self.assertIs(is_full_choice(goods, total, one, least=least), True)
                    self.assertIs(is_full_choice(goods, total, None, least=least), not full)
                    self.assertEqual(None if one is None else (one.load, one.worth, goods.is_choice(one)),
                                     (total, told[least], True) if full else None)
                    for choice in choices[:30] + full:
                        good = choice in full and worth_of(choice) == told[least]
                        self.assertIs(is_full_choice(goods, total, Goods(choice), least=least), good)
                self.assertEqual(full_choice(goods, total), full_choice(goods, total, least=False))


class TestTables(unittest.TestCase):
    """Goods of many kinds against tables of what each load is worth."""

    def tables(self, goods):
        best, least = {0: 0}, {0: 0}
        for (size, worth), many in goods.counts.items():
            for _ in range(many):
                best = self.with_thing(best, size, worth, max)
                least = self.with_thing(least, size, worth, min)
        return best, least

    def with_thing(self, table, size, worth, choose):
        found = dict(table)
        for load, gain in table.items():
            found[load + size] = choose(found.get(load + size, gain + worth), gain + worth)
        return found

    def test_tables(self):
        others = Goods({(3 ** (at % 3), 1 + at * at % 37): 1 + at % 3 for at in range(40)})
        twos = Goods({(6 * 2 ** (at % 4), 1 + at * 11 % 83 * 2 ** (at % 4)): 1 + at % 3 for at in range(30)})
        for goods in (Goods({(2 ** (at % 6), 1 + at * 7 % 31): 1 + at % 3 for at in range(40)}), others, twos):
            best, least = self.tables(goods)
            for total in list(range(0, goods.load, 5)) + list(range(goods.load - 9, goods.load + 2)):
                self.assertEqual((best_full(goods, total), least_full(goods, total)), (best.get(total), least.get(total)))
            # In a single room a choice fits if its load is at most the room.
            most = 0
            for room in range(1, goods.load + 2):
                most = max(most, best.get(room, 0))
                if room % 7 == 0 or room > goods.load - 3:
                    self.assertEqual(best_worth(goods, Store((room, 1))), most)
                    self.assertIs(is_best_choice(goods, Store((room, 1)), best_choice(goods, Store((room, 1)))), True)


class TestEdges(unittest.TestCase):
    def test_nothing_and_no_rooms(self):
        empty = Goods({})
        for store in (Store(), Store((7, 3))):
            self.assertEqual((best_worth(empty, store), best_choice(empty, store)), (0, empty))
            self.assertIs(is_best_choice(empty, store, empty), True)
            self.assertEqual(worths_of(empty, store, (1, 5)), (0, 0))
            self.assertEqual(worths_of(GOODS, store, ()), ())
        self.assertEqual((best_worth(GOODS, Store()), best_choice(GOODS, Store())), (0, empty))
        self.assertEqual((best_full(empty, 0), least_full(empty, 0), full_choice(empty, 0)), (0, 0, empty))
        self.assertEqual((best_full(empty, 1), least_full(empty, 1), full_choice(empty, 1)), (None, None, None))
        self.assertEqual((best_full(GOODS, 0), least_full(GOODS, 0), full_choice(GOODS, 0, least=True)), (0, 0, empty))
        self.assertIs(is_full_choice(GOODS, 0, empty), True)
        self.assertIs(is_full_choice(GOODS, 0, None), False)
        self.assertIs(is_full_choice(empty, 1, None), True)
        self.assertIs(is_full_choice(empty, 1, empty), False)

    def test_all_of_them_and_one_more(self):
        self.assertEqual((best_full(GOODS, 26), least_full(GOODS, 26), full_choice(GOODS, 26)), (46, 46, GOODS))
        self.assertEqual((best_full(GOODS, 27), full_choice(GOODS, 27, least=True)), (None, None))
        self.assertEqual(best_choice(GOODS, Store((26, 1))), GOODS)
        self.assertEqual(best_worth(GOODS, Store((25, 1))), 45)

    def test_loads_that_the_least_size_does_not_divide(self):
        goods = Goods({(4, 1): 3, (12, 5): 1})
        self.assertEqual([best_full(goods, total) for total in range(13)], [0, None, None, None, 1, None, None, None, 2, None, None, None, 5])
        self.assertEqual(least_full(goods, 12), 3)

    def test_sizes_that_no_room_holds(self):
        goods = Goods({(2, 1): 3, (10, 100): 1})
        self.assertEqual((best_worth(goods, Store((9, 5))), best_worth(goods, Store((10, 1))), best_worth(goods, Store((1, 9)))), (3, 100, 0))
        self.assertIs(is_best_choice(goods, Store((9, 5)), Goods({(2, 1): 3, (10, 100): 1})), False)

    def test_a_worthy_small_thing_and_a_full_room(self):
        # The best thing of the least size takes the place of a greater thing if it alone is worth more.
        goods = Goods({(1, 9): 1, (2, 8): 1})
        self.assertEqual([best_worth(goods, Store((room, 1))) for room in (1, 2, 3)], [9, 9, 17])
        self.assertEqual(best_choice(goods, Store((2, 1))).counts, {(1, 9): 1})

    def test_stores_of_forty_runs(self):
        for sizes in ((), (1,), (5, 6)):
            self.assertEqual(raised(worths_of, GOODS, FORTY_RUNS, sizes), (InvalidStore, None))
        thirty_nine = FORTY_RUNS.part(0, 39 * 3)
        self.assertEqual((len(thirty_nine), worths_of(GOODS, thirty_nine, (1, 6))), (39, (46, 46)))
        self.assertEqual(best_worth(FORTY, FORTY_RUNS), best_choice(FORTY, FORTY_RUNS).worth)
        self.assertIs(is_best_choice(FORTY, FORTY_RUNS, best_choice(FORTY, FORTY_RUNS)), True)

    def test_values_that_are_no_choices(self):
        store = Store((8, 1))
        best = best_choice(GOODS, store)
        self.assertIs(is_best_choice(GOODS, store, best), True)
        for value in not_goods() + [
            best.counts, best.lot, best.lines, (best,), Goods({}), GOODS, Goods({(1, 3): 1, (6, 11): 1}), Goods({(1, 3): 2, (6, 10): 1}),
            Goods({(1, 17): 1}), Goods({(1, 3): 2, (6, 11): 1, (1, 1): 1}), Goods({(6, 11): 2}),
        ]:
            self.assertIs(is_best_choice(GOODS, store, value), False)
            self.assertIs(is_full_choice(GOODS, 8, value), False)
            self.assertIs(is_full_choice(GOODS, 8, value, least=True), False)
        self.assertIs(is_full_choice(GOODS, 8, Goods({(1, 3): 2, (6, 11): 1})), True)
        self.assertIs(is_full_choice(GOODS, 8, Goods({(1, 3): 2, (6, 11): 1}), least=True), False)
        self.assertIs(is_full_choice(GOODS, 8, Goods({(1, 1): 2, (6, 10): 1}), least=True), True)
        self.assertIs(is_full_choice(GOODS, 7, Goods({(1, 3): 2, (6, 11): 1})), False)


class TestGreat(unittest.TestCase):
    def test_great_numbers(self):
        for figures in (20, 100, 199):
            great = 10 ** (figures - 1)
            goods = Goods({(1, 3): great, (1, 1): 5 * great, (great, 2): 3 * great})
            store = Store((3 * great + 2, 1), (great, great))
            # All small things are taken, and greater ones fill all rooms that are left.
            told = best_choice(goods, store)
            self.assertEqual((best_worth(goods, store), told.worth), (10 * great - 6, 10 * great - 6))
            self.assertEqual(told.counts, {(1, 1): 5 * great, (1, 3): great, (great, 2): great - 3})
            self.assertIs(is_best_choice(goods, store, told), True)
            self.assertEqual(worths_of(goods, Store(), (1, 2, great, LONGEST)), (3, 6, 3 * great, best_worth(goods, Store((LONGEST, 1)))))
            total = 4 * great + 5
            self.assertEqual((best_full(goods, total), least_full(goods, total)), (6 * great + 5, 13))
            for least in (False, True):
                one = full_choice(goods, total, least=least)
                self.assertIs(is_full_choice(goods, total, one, least=least), True)
            if figures < 199:
                self.assertEqual((best_full(goods, goods.load), best_full(goods, goods.load + 1)), (goods.worth, None))

    def test_sizes_and_worths_times_a_number(self):
        for great in (10 ** 20, 10 ** 100, 10 ** 198):
            goods = Goods({(size * great, worth * great): many for (size, worth), many in COUNTS.items()})
            for room in range(1, 28):
                store, more = Store((room, 2)), Store((room * great + great - 1, 2))
                self.assertEqual(best_worth(goods, more), great * best_worth(GOODS, store))
                self.assertEqual(worths_of(goods, more, (7 * great,)), (great * worths_of(GOODS, store, (7,))[0],))
                best = best_full(GOODS, room)
                self.assertEqual(best_full(goods, room * great), None if best is None else best * great)
                self.assertIsNone(best_full(goods, room * great + 1))

    def test_longest_numbers(self):
        goods = Goods({(LONGEST, LONGEST): LONGEST})
        self.assertEqual(best_worth(goods, Store((LONGEST, 5))), 5 * LONGEST)
        self.assertEqual((best_full(goods, LONGEST), least_full(goods, LONGEST), best_full(goods, LONGEST - 1)), (LONGEST, LONGEST, None))
        self.assertEqual((goods.load, goods.worth), (LONGEST ** 2, LONGEST ** 2))

    def test_lots_that_are_too_great(self):
        # All things of the size together are too many for a lot, but a choice from them is not asked for its lot.
        goods = Goods({(1, 1): LONGEST, (1, 2): LONGEST, (2, 3): LONGEST})
        store = Store((2, LONGEST), (1, LONGEST))
        self.assertEqual(best_worth(goods, store), 5 * LONGEST)
        one = best_choice(goods, store)
        self.assertIs(is_best_choice(goods, store, one), True)
        self.assertIs(is_best_choice(goods, store, goods), False)
        self.assertIs(is_best_choice(goods, Store((4, LONGEST)), goods), True)
        self.assertIs(is_best_choice(goods, Store((4, LONGEST)), best_choice(goods, Store((4, LONGEST)))), True)
        self.assertEqual(worths_of(goods, Store((1, LONGEST)), (1,)), (2 * LONGEST + 1,))

    def test_forty_pairs_and_forty_runs(self):
        great = 10 ** 100
        goods = Goods({(3 ** (at % 12) * great, great + at * 17 % 41): great + at for at in range(40)})
        store = Store(*[((5 + 97 * at % 53) * great * 1000, great + at) for at in range(40)])
        self.assertEqual((len(goods), len(store)), (40, 40))
        one = best_choice(goods, store)
        self.assertEqual(one.worth, best_worth(goods, store))
        self.assertIs(is_best_choice(goods, store, one), True)
        total = 12345678901234567890 * great
        for least in (False, True):
            one = full_choice(goods, total, least=least)
            self.assertIs(is_full_choice(goods, total, one, least=least), True)
        self.assertLess(least_full(goods, total), best_full(goods, total))


class TestWrongInputs(unittest.TestCase):
    def test_goods(self):
        for value in not_goods() + [COUNTS]:
            for call in (best_worth, best_choice, best_full, least_full, full_choice):
                self.assertEqual(raised(call, value, None), (InvalidLot, None))
            for call in (is_best_choice, worths_of, is_full_choice):
                self.assertEqual(raised(call, value, None, None), (InvalidLot, None))
            self.assertEqual(raised(lambda: full_choice(value, None, least=None)), (InvalidLot, None))
            self.assertEqual(raised(lambda: is_full_choice(value, None, None, least=None)), (InvalidLot, None))

    def test_stores(self):
        for value in not_stores():
            for goods in (GOODS, Goods({})):
                self.assertEqual([raised(call, goods, value) for call in (best_worth, best_choice)], [(InvalidStore, None)] * 2)
                self.assertEqual([raised(call, goods, value, None) for call in (is_best_choice, worths_of)], [(InvalidStore, None)] * 2)

    def test_sizes(self):
        for value in not_size_values():
            for store in (Store((7, 1)), FORTY_RUNS):
                if value not in ((), (1,), (1, 2)):
                    self.assertEqual(raised(worths_of, GOODS, store, value), (InvalidSizes, None))
                self.assertEqual(raised(worths_of, GOODS, store, (value,)), (InvalidSizes, None))
                self.assertEqual(raised(worths_of, GOODS, store, (1, value)), (InvalidSizes, None))
        self.assertEqual(raised(worths_of, GOODS, Store(), (1,) * 13), (InvalidSizes, None))
        self.assertEqual(raised(worths_of, GOODS, Store(), 5), (InvalidSizes, None))
        self.assertEqual(worths_of(GOODS, Store(), (1,) * 12), (3,) * 12)
        self.assertEqual(worths_of(GOODS, Store(), (6, 5, 4)), (best_worth(GOODS, Store((6, 1))), best_worth(GOODS, Store((5, 1))), 11))

    def test_totals(self):
        for value in not_counts():
            for goods in (GOODS, Goods({})):
                for call in (best_full, least_full, full_choice):
                    kind, kept = raised(call, goods, value)
                    self.assertIs(kind, InvalidNumber)
                    self.assertIs(kept, value)
                self.assertEqual(raised(is_full_choice, goods, value, None)[0], InvalidNumber)
                self.assertEqual(raised(lambda: full_choice(goods, value, least=None))[0], InvalidNumber)

    def test_least(self):
        for value in all_values():
            if value is not True and value is not False:
                for total in (8, 27):
                    self.assertEqual(raised(lambda: full_choice(GOODS, total, least=value)), (InvalidOperation, None))
                    self.assertEqual(raised(lambda: is_full_choice(GOODS, total, None, least=value)), (InvalidOperation, None))

    def test_nothing_changes(self):
        goods, store = Goods(COUNTS), Store((8, 1))
        self.assertEqual([best_choice(goods, store), full_choice(goods, 8)], [best_choice(goods, store), full_choice(goods, 8)])
        self.assertEqual((goods, store), (GOODS, Store((8, 1))))


if __name__ == "__main__":
    unittest.main()
