"""The whole program: the main statements, with the promises 0.2, 0.4 and 0.12 to 0.19, over all modules."""

import itertools
import unittest

from chainpacks.decide.arrivals import fooled_row, is_open, opened
from chainpacks.decide.fewest import cap_paper, fewest_of, fewest_rooms, is_cap_paper, is_rooms_paper, least_cap, least_room, rooms_paper
from chainpacks.decide.fooled import fooled_lot, fooled_number, is_fooled_lot
from chainpacks.decide.levels import barring_sizes, fit_paper, fits, is_fit_paper, more_rooms, spare
from chainpacks.decide.most import keep_things, keep_total, most_things, most_total, things_paper, total_paper
from chainpacks.decide.profiles import are_alike, is_easier, parting_lot, parting_store, plain_store, profile, takes_all
from chainpacks.errors import NoRoom
from chainpacks.pack.packings import Packing, is_packing_of
from chainpacks.pack.rules import RULES, is_greedy, is_taken, pack
from chainpacks.text.shell import Shell
from chainpacks.text.texts import brief, lot_in, read, read_fit, write, write_fit
from chainpacks.things.lots import Lot
from chainpacks.things.stores import Store
from chainpacks.use.bench import Bench
from chainpacks.worth.goods import Goods, best_choice, best_worth, full_choice
from chainpacks.worth.purses import amount_at, can_pay, count_amounts, fewest_coins, is_gapless, lacking_sizes, most_coins
from walks import all_holds, all_rows, all_things, can_fit, lot_of_things, packing_of, store_of
from wrong_values import raised

CHAINS = [(1, 2, 4), (1, 2, 6), (2, 6), (1, 3), (3,)]
ROWS = [(), (1,), (7,), (3, 3), (7, 3), (6, 7), (2, 5, 1), (4, 2, 4), (7, 6, 3)]
GREAT = 10 ** 60


def small_pairs(most):
    """Chains, things and rooms of small chained lots and small stores."""
    for chain in CHAINS:
        for things, rooms in itertools.product(all_things(chain, most), ROWS):
            yield chain, things, rooms


def best_of(lot, store):
    """The greatest worth of a choice from the lot, if each thing is worth one; and if it is worth its size."""
    ones, sizes = Goods({(size, 1): lot[size] for size in lot}), Goods({(size, size): lot[size] for size in lot})
    return best_worth(ones, store), best_worth(sizes, store)


class TestFitting(unittest.TestCase):
    def test_all_ways_to_tell_whether_a_lot_fits(self):
        for chain, things, rooms in small_pairs(5):
            lot, store = lot_of_things(things), store_of(rooms)
            fit = can_fit(things, rooms)
            paper = fit_paper(lot, store)
            plain = plain_store(chain, profile(chain, store))
            told = [
                fits(lot, store), barring_sizes(lot, store) == (), paper[0] == "packed", spare(lot, store, chain[0]) is not None,
                most_things(lot, store) == lot.number, most_total(lot, store) == lot.total, keep_things(lot, store) == lot, keep_total(lot, store) == lot,
                things_paper(lot, store)[1] is None, total_paper(lot, store)[1] is None, fits(lot, plain), more_rooms(lot, store, 24) == 0,
                raised(fewest_of, lot, store) is None, raised(least_cap, lot, store) is None, raised(Bench(chain, store).put, "ann", lot) is None,
                Shell(Bench(chain, store))(f"put ann {brief(lot)}") == "ok", Shell(Bench(chain, store))(f"fits {brief(lot)}") == "yes",
                Bench(chain, store).put_most("ann", lot) == Lot(), best_of(lot, store) == (lot.number, lot.total),
            ] + [pack(lot, store, rule=rule)[1] == Lot() for rule in RULES]
            self.assertEqual(told, [fit] * len(told), (things, rooms))
            self.assertIs(is_fit_paper(lot, store, read_fit(write_fit(paper))), True)
            if not fit:
                self.assertEqual(raised(fewest_of, lot, store), (NoRoom, barring_sizes(lot, store)[-1]))
                self.assertEqual(raised(Bench(chain, store).put, "ann", lot), (NoRoom, barring_sizes(lot, store)[-1]))
                self.assertEqual(Shell(Bench(chain, store))(f"fits {brief(lot)}"), f"barred {barring_sizes(lot, store)[-1]}")

    def test_stages_agree(self):
        for chain, things, rooms in small_pairs(4):
            lot, store = lot_of_things(things), store_of(rooms)
            bench = Bench(chain, store)
            left = bench.put_most("ann", lot)
            self.assertEqual((bench["ann"].total, lot - left), (most_total(lot, store), bench["ann"]))
            self.assertEqual(best_of(lot, store), (most_things(lot, store), most_total(lot, store)))
            self.assertIs(is_packing_of(bench.whole, store, bench.plan()), True)
            if fits(lot, store):
                self.assertEqual([bench.room_for(size) for size in chain], [spare(lot, store, size) for size in chain])
                self.assertIs(is_greedy(lot, store, (bench.plan(), left)), True)
                equal = Store((7, 3))
                self.assertEqual(fits(lot, equal), raised(bench.move_to, equal) is None)
                if things:
                    self.assertEqual(is_rooms_paper(lot, store, rooms_paper(lot, store)), is_cap_paper(lot, store, cap_paper(lot, store)))
                    self.assertEqual(fewest_rooms(lot, 7), fewest_of(lot, Store((7, 9))))
                    self.assertLessEqual(least_cap(lot, Store((7, 9))), least_room(lot, 9))
                    self.assertEqual(bench.least_store(7), fewest_rooms(lot, 7))

    def test_open_stores(self):
        for chain, things, rooms in small_pairs(4):
            if can_fit(things, rooms):
                store = store_of(rooms)
                taken = all(is_taken(tuple((size, 1) for size in order), store) for order in set(itertools.permutations(things)))
                self.assertIs(taken or not is_open(chain, store), True)
                turned = opened(chain, store)
                self.assertIs(turned is None or all(is_taken(tuple((size, 1) for size in order), turned) for order in set(itertools.permutations(things))), True)

    def test_all_sizes_and_rooms_times_a_number(self):
        for chain, things, rooms in small_pairs(3):
            lot, store = lot_of_things(things), store_of(rooms)
            more, wide = lot.scaled(GREAT), Store(*[(room * GREAT, many) for room, many in store.runs])
            long_chain = tuple(size * GREAT for size in chain)
            self.assertEqual(barring_sizes(more, wide), tuple(size * GREAT for size in barring_sizes(lot, store)))
            self.assertEqual(fits(more, wide), fits(lot, store))
            self.assertEqual([spare(more, wide, size * GREAT) for size in chain], [spare(lot, store, size) for size in chain])
            self.assertEqual((most_things(more, wide), most_total(more, wide)), (most_things(lot, store), most_total(lot, store) * GREAT))
            self.assertEqual((keep_things(more, wide), keep_total(more, wide)), (keep_things(lot, store).scaled(GREAT), keep_total(lot, store).scaled(GREAT)))
            self.assertEqual((profile(long_chain, wide), is_open(long_chain, wide)), (profile(chain, store), is_open(chain, store)))
            for rule in RULES:
                self.assertEqual(pack(more, wide, rule=rule)[1], pack(lot, store, rule=rule)[1].scaled(GREAT))
                self.assertEqual([many for _, many, _ in pack(more, wide, rule=rule)[0].runs], [many for _, many, _ in pack(lot, store, rule=rule)[0].runs])
            if fits(lot, store):
                self.assertEqual((fewest_of(more, wide), least_cap(more, wide)), (fewest_of(lot, store), least_cap(lot, store) * GREAT))
            row, long_row = fooled_row(chain, store), fooled_row(long_chain, wide)
            self.assertEqual(long_row, None if row is None else tuple((size * GREAT, many) for size, many in row))
            self.assertEqual((count_amounts(more), is_gapless(more)), (count_amounts(lot), is_gapless(lot)))
            self.assertEqual(amount_at(more, count_amounts(more) - 1), lot.total * GREAT)


class TestStatements(unittest.TestCase):
    def test_rules_are_right_just_for_chains(self):
        # 0.13 and 0.14
        for sizes in itertools.combinations(range(1, 9), 2):
            number = fooled_number(sizes)
            self.assertEqual(number is None, sizes[1] % sizes[0] == 0)
            for rule in RULES:
                self.assertEqual(fooled_lot(sizes, rule=rule) is None, number is None)
            if number is not None:
                self.assertEqual((number, fooled_lot(sizes)[0].number), (sizes[1] // sizes[0] + 2, number))

    def test_equal_units_take_the_same_lots(self):
        # 0.16
        for chain in ((1, 2, 4), (1, 3)):
            stores = [store_of(rooms) for rooms in all_rows((1, 3, 4, 5), 2)]
            for one, other in itertools.product(stores, repeat=2):
                lots = [lot_of_things(things) for things in all_things(chain, 4)]
                takes = all(fits(lot, one) for lot in lots if fits(lot, other))
                if takes_all(chain, one, other):
                    self.assertIs(takes, True)
                self.assertEqual(takes_all(chain, one, other), parting_lot(chain, one, other) is None)
                self.assertEqual(are_alike(chain, one, other), takes_all(chain, one, other) and takes_all(chain, other, one))

    def test_payments_and_the_rest(self):
        # 0.17 and 0.19
        for purse in (Lot({1: 3, 5: 2, 10: 1}), Lot({2: 1, 6: 3}), Lot({1: 5, 2: 1, 12: 2})):
            for amount in range(purse.total + 1):
                self.assertEqual(can_pay(purse, amount), lacking_sizes(purse, amount) == ())
                if can_pay(purse, amount):
                    self.assertEqual(purse - fewest_coins(purse, amount), most_coins(purse, purse.total - amount))

    def test_exchanged_rooms_and_what_is_left(self):
        # 0.19
        for things, rooms in itertools.product(all_things((1, 2, 6), 5), ROWS):
            lot = lot_of_things(things)
            self.assertEqual(len({fits(lot, store_of(order)) for order in itertools.permutations(rooms)}), 1)
            self.assertEqual(len({brief(pack(lot, store_of(rooms), rule=rule)[1]) for rule in RULES}), 1)


class TestWhatIsNotTrue(unittest.TestCase):
    """An example for each sentence of 0.18."""

    def test_a_load_that_is_at_most_all_space(self):
        lot, store = Lot({6: 6}), Store((10, 2), (7, 3))
        self.assertEqual((lot.total <= store.total, fits(lot, store)), (True, False))

    def test_the_things_of_each_size_alone(self):
        store = Store((3, 1))
        self.assertEqual([fits(Lot(counts), store) for counts in ({1: 3}, {3: 1}, {1: 3, 3: 1})], [True, True, False])

    def test_equal_total_space(self):
        one, other = Store((4, 1)), Store((2, 2))
        self.assertEqual((one.total, are_alike((1, 2, 4), one, other), parting_lot((1, 2, 4), other, one)), (other.total, False, Lot({4: 1})))

    def test_greater_rooms_that_are_less_in_number(self):
        few, many = Store((12, 1)), Store((7, 1), (5, 1))
        self.assertEqual((few.total, takes_all((1, 2, 6), few, many), takes_all((1, 2, 6), many, few)), (many.total, True, False))

    def test_things_in_any_order(self):
        store = Store((3, 1), (1, 1))
        self.assertEqual((is_open((1, 2), store), is_taken(((1, 2), (2, 1)), store), fits(Lot({1: 2, 2: 1}), store)), (False, False, True))

    def test_the_most_things_and_the_greatest_load(self):
        lot, store = Lot({1: 2, 4: 1}), Store((4, 1))
        parts = [part for part in (Lot(), Lot({1: 1}), Lot({1: 2}), Lot({4: 1}), Lot({1: 1, 4: 1}), lot) if fits(part, store)]
        self.assertEqual([part for part in parts if part.number == most_things(lot, store) and part.total == most_total(lot, store)], [])

    def test_each_sum_with_a_least_coin_of_one(self):
        purse = Lot({1: 3, 5: 2})
        self.assertEqual((can_pay(purse, 4), purse.total, is_gapless(purse)), (False, 13, False))

    def test_lots_that_fit_more_easily(self):
        self.assertEqual((is_easier(Lot({2: 3}), Lot({1: 6})), fits(Lot({2: 3}), parting_store(Lot({2: 3}), Lot({1: 6})))), (False, False))


class TestNothingIsShared(unittest.TestCase):
    def test_texts_of_all_results(self):
        for things, rooms in itertools.product(all_things((1, 2, 4), 3), [(3, 4), (4, 3), (2, 2, 5)]):
            lot, store = lot_of_things(things), store_of(rooms)
            for holds in all_holds(things, rooms)[:4]:
                packing = packing_of(rooms, holds)
                self.assertEqual((read(write(packing)), Packing.from_lines(*packing.lines)), (packing, packing))
                self.assertEqual((read(write(packing.lot)), read(write(packing.store)), lot_in(brief(packing.lot))), (lot, store, lot))

    def test_returned_dicts_are_copies(self):
        lot, goods, store = Lot({1: 2}), Goods({(1, 5): 2}), Store((3, 1))
        bench = Bench((1,), store)
        bench.put("ann", lot)
        for told in (lot.counts, goods.counts, store.rooms, bench.orders, bench.whole.counts, best_choice(goods, store).counts):
            told.clear()
        self.assertEqual((lot, goods, store.rooms, bench.orders, full_choice(goods, 2)), (Lot({1: 2}), Goods({(1, 5): 2}), {3: 1}, {"ann": lot}, goods))

    def test_fooled_lots_are_seen_by_the_judge(self):
        for rule in RULES:
            self.assertIs(is_fooled_lot((4, 6, 9), fooled_lot((4, 6, 9), rule=rule), rule=rule), True)

    def test_no_iteration_but_where_it_is_told(self):
        for value in (Shell(Bench((1,), Store())), fit_paper):
            self.assertEqual(raised(list, value)[0], TypeError)


if __name__ == "__main__":
    unittest.main()
