"""Stage 13: purses, with the promises 0.1 to 0.6, 0.17 to 0.19, 13.1, 13.2 and 13.3."""

import itertools
import unittest

from chainpacks.errors import InvalidLot, InvalidNumber, InvalidOperation, NoChain
from chainpacks.things.lots import Lot
from chainpacks.things.stores import Store
from chainpacks.worth.purses import (
    amount_at, amounts_below, can_pay, can_trade, count_amounts, fewest_coins, is_gapless, is_pay_paper, is_trade,
    lacking_sizes, most_coins, pay_paper, trade,
)
from wrong_values import LONGEST, all_values, not_chains, not_counts, not_lots, raised

PURSE = Lot({1: 3, 5: 2, 10: 1, 50: 4})
SMALL = [
    Lot(), Lot({1: 4}), Lot({3: 3}), Lot({1: 3, 5: 2, 10: 1}), Lot({1: 1, 3: 1, 9: 2}), Lot({2: 4, 6: 1}), Lot({2: 1, 6: 3}),
    Lot({1: 2, 4: 2, 8: 1, 16: 1}), Lot({5: 1, 10: 1, 20: 1, 40: 1}), Lot({1: 1, 7: 2}), Lot({4: 1, 8: 2, 24: 1}), Lot({1: 5, 2: 1, 12: 2}),
]
TWELVE = Lot({3 ** k: 1 + k % 4 for k in range(12)})
OF_AMOUNTS = (can_pay, lacking_sizes, fewest_coins, most_coins, pay_paper, amounts_below, amount_at)
OF_PURSES = (count_amounts, is_gapless)


def parts_of(purse):
    """All parts of a purse."""
    for taken in itertools.product(*[range(purse[size] + 1) for size in purse.sizes]):
        yield Lot({size: many for size, many in zip(purse.sizes, taken) if many})


def amounts_of(purse):
    """All totals of parts of a purse, ascending."""
    return sorted({part.total for part in parts_of(purse)})


class TestExamples(unittest.TestCase):
    def test_first_example(self):
        told = [
            can_pay(PURSE, 63), can_pay(PURSE, 64), lacking_sizes(PURSE, 64), lacking_sizes(PURSE, 123), can_pay(PURSE, 10 ** 30),
        ]
        self.assertEqual(told, [True, False, (5,), (), False])

    def test_second_example(self):
        told = [
            fewest_coins(PURSE, 60).counts, most_coins(PURSE, 110).counts, is_pay_paper(PURSE, 30, ("lacks", 50)),
            pay_paper(PURSE, 300),
        ]
        self.assertEqual(told, [{10: 1, 50: 1}, {5: 2, 50: 2}, True, ("over", 223)])

    def test_third_example(self):
        told = [
            count_amounts(PURSE), amounts_below(PURSE, 50), amount_at(PURSE, 5), amount_at(PURSE, 20), is_gapless(PURSE),
            is_gapless(Lot({2: 4, 6: 1})),
        ]
        self.assertEqual(told, [100, 20, 6, 50, False, True])

    def test_fourth_example(self):
        told = [
            can_trade(Lot({50: 1}), PURSE, 46), trade(Lot({10: 1}), Lot({5: 1}), 5)[0].counts,
            is_trade(Lot({10: 2}), Lot({5: 2}), 10, (Lot({10: 2}), Lot({5: 2}))),
        ]
        self.assertEqual(told, [False, {10: 1}, True])


class TestSmall(unittest.TestCase):
    """Small purses against a look at all their parts."""

    def test_payments(self):
        for purse in SMALL:
            parts = list(parts_of(purse))
            for amount in range(purse.total + 12):
                good = [part for part in parts if part.total == amount]
                lacking = tuple(
                    size for size in purse.sizes if sum(low * purse[low] for low in purse.sizes if low < size) < amount % size
                )
                self.assertEqual((can_pay(purse, amount), lacking_sizes(purse, amount)), (bool(good), lacking))
                self.assertIs(bool(good), amount <= purse.total and not lacking)
                if good:
                    numbers = [part.number for part in good]
                    few, many = fewest_coins(purse, amount), most_coins(purse, amount)
                    self.assertEqual([part for part in good if part.number == min(numbers)], [few])
                    self.assertEqual([part for part in good if part.number == max(numbers)], [many])
                    self.assertEqual(purse - few, most_coins(purse, purse.total - amount))
                else:
                    self.assertEqual(raised(fewest_coins, purse, amount), (InvalidOperation, None))
                    self.assertEqual(raised(most_coins, purse, amount), (InvalidOperation, None))

    def test_papers(self):
        for purse in SMALL:
            parts = list(parts_of(purse))
            for amount in range(purse.total + 12):
                lacking, over = lacking_sizes(purse, amount), amount > purse.total
                paper = pay_paper(purse, amount)
                self.assertIs(is_pay_paper(purse, amount, paper), True)
                self.assertIs(paper[0] == "paid", can_pay(purse, amount))
                for part in parts:
                    self.assertIs(is_pay_paper(purse, amount, ("paid", part)), part.total == amount)
                for number in range(-1, purse.total + 2):
                    self.assertIs(is_pay_paper(purse, amount, ("lacks", number)), number in lacking)
                    self.assertIs(is_pay_paper(purse, amount, ("over", number)), over and number == purse.total)

    def test_amounts(self):
        for purse in SMALL:
            told = amounts_of(purse)
            self.assertEqual(count_amounts(purse), len(told))
            self.assertEqual([amount_at(purse, index) for index in range(len(told))], told)
            self.assertEqual(raised(amount_at, purse, len(told)), (InvalidNumber, len(told)))
            for amount in range(purse.total + 12):
                self.assertEqual(amounts_below(purse, amount), len([each for each in told if each < amount]))
            least = min(purse.sizes, default=1)
            self.assertIs(is_gapless(purse), told == list(range(0, purse.total + 1, least)))

    def test_trades(self):
        for purse, till in itertools.product(SMALL[:8] + [Lot({20: 2, 40: 1})], repeat=2):
            together = sorted(set(purse.sizes + till.sizes))
            gaps = [pair for pair in zip(together, together[1:]) if pair[1] % pair[0]]
            pays, backs = amounts_of(purse), amounts_of(till)
            for amount in range(0, purse.total + 3):
                if gaps:
                    self.assertEqual(raised(can_trade, purse, till, amount), (NoChain, gaps[0]))
                    self.assertEqual(raised(trade, purse, till, amount), (NoChain, gaps[0]))
                    continue
                good = any(pay - amount in backs for pay in pays)
                self.assertIs(can_trade(purse, till, amount), good)
                if good:
                    payment, change = trade(purse, till, amount)
                    self.assertEqual((payment.is_part_of(purse), change.is_part_of(till)), (True, True))
                    self.assertEqual(payment.total - change.total, amount)
                    self.assertIs(is_trade(purse, till, amount, (payment, change)), True)
                else:
                    self.assertEqual(raised(trade, purse, till, amount), (InvalidOperation, None))

    def test_every_trade(self):
        for purse, till in ((Lot({1: 2, 5: 1}), Lot({1: 3})), (Lot({10: 2}), Lot({5: 2, 10: 1})), (Lot(), Lot({2: 1})), (Lot({4: 1}), Lot())):
            for payment, change in itertools.product(parts_of(purse), parts_of(till)):
                for amount in range(25):
                    self.assertIs(is_trade(purse, till, amount, (payment, change)), payment.total - change.total == amount)
                    self.assertIs(is_trade(purse, till, amount, (payment + Lot({1: 9}), change)), False)
                    self.assertIs(is_trade(purse, till, amount, (payment, change + Lot({1: 9}))), False)


class TestEdges(unittest.TestCase):
    def test_no_coins(self):
        empty = Lot()
        self.assertEqual([can_pay(empty, 0), can_pay(empty, 1), lacking_sizes(empty, 5)], [True, False, ()])
        self.assertEqual((fewest_coins(empty, 0), most_coins(empty, 0)), (empty, empty))
        self.assertEqual((pay_paper(empty, 0), pay_paper(empty, 3)), (("paid", empty), ("over", 0)))
        self.assertEqual([count_amounts(empty), amounts_below(empty, 0), amounts_below(empty, 1), amounts_below(empty, 9)], [1, 0, 1, 1])
        self.assertEqual((amount_at(empty, 0), raised(amount_at, empty, 1)), (0, (InvalidNumber, 1)))
        self.assertEqual((is_gapless(empty), can_trade(empty, empty, 0), can_trade(empty, PURSE, 0)), (True, True, True))
        self.assertEqual((can_trade(empty, PURSE, 1), trade(empty, empty, 0)), (False, (empty, empty)))
        self.assertIs(is_pay_paper(empty, 3, ("over", False)), False)
        self.assertIs(is_pay_paper(empty, 3, ("over", 0)), True)

    def test_nothing_all_coins_and_one_more(self):
        self.assertEqual((fewest_coins(PURSE, 0), most_coins(PURSE, 0)), (Lot(), Lot()))
        self.assertEqual((fewest_coins(PURSE, 223), most_coins(PURSE, 223)), (PURSE, PURSE))
        self.assertEqual((can_pay(PURSE, 224), pay_paper(PURSE, 224)[0] in ("lacks", "over")), (False, True))
        self.assertEqual([amounts_below(PURSE, amount) for amount in (0, 1, 223, 224, 225, LONGEST)], [0, 1, 99, 100, 100, 100])
        self.assertEqual([amount_at(PURSE, index) for index in (0, 99)], [0, 223])
        self.assertEqual(raised(amount_at, PURSE, 100), (InvalidNumber, 100))
        self.assertEqual((is_pay_paper(PURSE, 224, ("over", 223)), is_pay_paper(PURSE, 224, ("lacks", 5))), (True, True))

    def test_a_least_coin_that_is_not_one(self):
        purse = Lot({6: 2, 12: 1})
        self.assertEqual([lacking_sizes(purse, amount) for amount in (0, 3, 6, 9, 12, 15, 24, 25, 30)], [
            (), (6,), (), (6,), (), (6,), (), (6,), (),
        ])
        self.assertEqual((pay_paper(purse, 9), pay_paper(purse, 30)), (("lacks", 6), ("over", 24)))
        self.assertEqual((count_amounts(purse), is_gapless(purse), amounts_below(purse, 7)), (5, True, 2))
        self.assertEqual(is_gapless(Lot({2: 1, 6: 1})), False)

    def test_a_least_coin_of_one_does_not_pay_each_amount(self):
        purse = Lot({1: 1, 5: 3})
        self.assertEqual([amount for amount in range(17) if can_pay(purse, amount)], [0, 1, 5, 6, 10, 11, 15, 16])
        self.assertIs(is_gapless(purse), False)

    def test_values_that_are_no_papers(self):
        paid = fewest_coins(PURSE, 60)
        for value in (
            ("paid", paid, paid), ("paid",), ["paid", paid], paid, ("paid", paid.counts), ("Paid", paid), (paid, "paid"), ("paid", None),
            ("paid", 60), ("paid", PURSE), ("paid", Lot({10: 6})), ("paid", Lot({60: 1})), ("paid", paid - Lot({10: 1})), ("over", 223),
            ("lacks", 50), ("paid", Lot({2: 30})), ("paid", Store((60, 1))), (("paid", paid),), ("lacks", paid), ("over", paid), (None, paid),
        ):
            self.assertIs(is_pay_paper(PURSE, 60, value), False, value)
        for value in all_values():
            self.assertIs(is_pay_paper(PURSE, 60, value), False)
            self.assertIs(is_pay_paper(PURSE, 60, ("paid", value)), False)
            self.assertIs(is_pay_paper(PURSE, 60, (value, paid)), False)
            self.assertIs(is_pay_paper(Lot({1: 3, 2: 1}), 9, ("over", value)), False)
            self.assertIs(is_pay_paper(Lot({1: 1}), 9, ("over", value)), value is not True and value == 1)
            self.assertIs(is_pay_paper(Lot({2: 1}), 1, ("lacks", value)), value is not True and value == 2)
            self.assertIs(is_pay_paper(Lot({1: 1}), 1, ("lacks", value)), False)
        self.assertIs(is_pay_paper(Lot({1: 1}), 9, ("over", 1, 1)), False)
        for word in ("Over", "", None, "overs", "more", ("over",)):
            self.assertIs(is_pay_paper(PURSE, 300, (word, 223)), False)
            self.assertIs(is_pay_paper(PURSE, 64, (word, 5)), False)
        self.assertIs(is_pay_paper(PURSE, 300, ("over", 300)), False)
        self.assertIs(is_pay_paper(PURSE, 223, ("over", 223)), False)

    def test_values_that_are_no_trades(self):
        purse, till = Lot({10: 2}), Lot({5: 2})
        good = (Lot({10: 2}), Lot({5: 2}))
        self.assertIs(is_trade(purse, till, 10, good), True)
        self.assertIs(is_trade(purse, till, 10, (Lot({10: 1}), Lot())), True)
        for value in (
            good[::-1], list(good), good + (Lot(),), good[:1], (good[0].counts, good[1]), (good[0], good[1].counts), (Lot({10: 1}), Lot({5: 1})),
            (Lot({5: 2}), Lot()), (Lot({10: 3}), Lot({5: 4})), (Lot({20: 1}), Lot({5: 2})), (Lot({10: 2}), Lot({10: 1})), (good,), None,
            (Lot({10: 2}), None), (None, Lot()), (20, 10), (Lot(), Lot()),
        ):
            self.assertIs(is_trade(purse, till, 10, value), False, value)
        for value in all_values():
            self.assertIs(is_trade(purse, till, 10, value), False)
            self.assertIs(is_trade(purse, till, 10, (value, Lot({5: 2}))), False)
            self.assertIs(is_trade(purse, till, 10, (Lot({10: 2}), value)), False)

    def test_coins_of_both_sides(self):
        one = Lot({1: 2, 10: 3})
        self.assertEqual(trade(one, one, 0)[0].total, trade(one, one, 0)[1].total)
        self.assertEqual([amount for amount in range(40) if can_trade(one, one, amount)], [
            amount for amount in range(40) if any(pay - back == amount for pay in amounts_of(one) for back in amounts_of(one))
        ])


class TestGreat(unittest.TestCase):
    def test_great_numbers(self):
        for figures in (20, 100, 199):
            great = 10 ** (figures - 1)
            purse = Lot({1: 3 * great, great: 5, 5 * great: great})
            self.assertEqual([can_pay(purse, amount) for amount in (0, great + 1, 13 * great, 12 * great + 7)], [True] * 4)
            self.assertEqual(fewest_coins(purse, 9 * great + 7).counts, {1: 7, great: 4, 5 * great: 1})
            self.assertEqual(most_coins(purse, 9 * great + 7).counts, {1: 2 * great + 7, great: 2, 5 * great: 1})
            total = 5 * great ** 2 + 8 * great
            self.assertEqual((purse.total, count_amounts(purse), is_gapless(purse)), (total, total + 1, True))
            self.assertEqual((amounts_below(purse, 7 * great), amount_at(purse, 7 * great)), (7 * great, 7 * great))
            less = Lot({2: great - 1, 4 * great: 3, 12 * great: great})
            # By the greater coins there are six amounts in each piece of four times the great number, but for the even ones.
            self.assertEqual((is_gapless(less), lacking_sizes(less, 4 * great - 2), lacking_sizes(less, 1)), (False, (4 * great,), (2,)))
            self.assertEqual(amounts_below(less, 4 * great), great)
            self.assertEqual((amounts_below(less, 8 * great), amount_at(less, 2 * great - 1)), (2 * great, 6 * great - 2))
            self.assertEqual(count_amounts(less), (3 * great + 4) * great)
            if figures < 199:
                self.assertEqual(amount_at(less, (3 * great + 4) * great - 1), less.total)

    def test_longest_numbers(self):
        purse = Lot({LONGEST: LONGEST})
        self.assertEqual((can_pay(purse, LONGEST), can_pay(purse, LONGEST - 1), pay_paper(purse, LONGEST - 1)), (True, False, ("lacks", LONGEST)))
        self.assertEqual((count_amounts(purse), amounts_below(purse, LONGEST), amount_at(purse, LONGEST)), (LONGEST + 1, 1, LONGEST ** 2))
        self.assertEqual(raised(amount_at, Lot({LONGEST: LONGEST - 1}), LONGEST), (InvalidNumber, LONGEST))
        self.assertEqual(most_coins(purse, LONGEST).counts, {LONGEST: 1})

    def test_twelve_sizes(self):
        told = amounts_of(Lot({size: TWELVE[size] for size in TWELVE.sizes[:7]}))
        self.assertEqual([amount_at(TWELVE, index) for index in range(0, 300, 7)], told[0:300:7])
        count = count_amounts(TWELVE)
        self.assertEqual(amount_at(TWELVE, count - 1), TWELVE.total)
        for index in range(0, count, count // 50):
            amount = amount_at(TWELVE, index)
            self.assertEqual((amounts_below(TWELVE, amount), can_pay(TWELVE, amount)), (index, True))
            self.assertIs(is_pay_paper(TWELVE, amount, ("paid", fewest_coins(TWELVE, amount))), True)
            self.assertIs(is_pay_paper(TWELVE, amount, ("paid", most_coins(TWELVE, amount))), True)
        great = 7 * 10 ** 99
        scaled = TWELVE.scaled(great)
        self.assertEqual((count_amounts(scaled), amount_at(scaled, count // 2)), (count, amount_at(TWELVE, count // 2) * great))

    def test_trades_between_many_sizes(self):
        # Both together have twenty-four sizes.
        great = 10 ** 30
        purse, till = Lot({4 ** k: great + k for k in range(12)}), Lot({2 * 4 ** k: 3 * great + k for k in range(12)})
        for amount in (0, 1, 2, 12345678901234567890, purse.total, purse.total - 1):
            told = trade(purse, till, amount)
            self.assertIs(is_trade(purse, till, amount, told), True)
            self.assertIs(can_trade(purse, till, amount), True)
        self.assertIs(can_trade(purse, till, purse.total + 1), False)
        self.assertIs(can_trade(Lot({4: 1}), till.scaled(4), 6), False)
        # So many coins of one size that they are too many for a lot.
        purse, till = Lot({2: LONGEST}), Lot({2: LONGEST, 4: 5})
        self.assertIs(is_trade(purse, till, 6, trade(purse, till, 6)), True)
        self.assertIs(can_trade(purse, till, 7), False)


class TestWrongInputs(unittest.TestCase):
    def test_lots(self):
        for value in not_lots():
            for call in OF_AMOUNTS:
                self.assertEqual(raised(call, value, None), (InvalidLot, None))
            for call in OF_PURSES:
                self.assertEqual(raised(call, value), (InvalidLot, None))
            self.assertEqual(raised(is_pay_paper, value, None, None), (InvalidLot, None))
            for purse in (PURSE, Lot({2: 1, 3: 1})):
                for call in (can_trade, trade):
                    self.assertEqual(raised(call, value, purse, None), (InvalidLot, None))
                    self.assertEqual(raised(call, purse, value, None), (InvalidLot, None))
                self.assertEqual(raised(is_trade, value, purse, None, None), (InvalidLot, None))
                self.assertEqual(raised(is_trade, purse, value, None, None), (InvalidLot, None))

    def test_amounts(self):
        for value in not_counts():
            for purse in (PURSE, Lot(), Lot({2: 1, 3: 1})):
                told = [lambda: is_pay_paper(purse, value, None), lambda: is_trade(purse, PURSE, value, None)]
                told += [lambda call=call: call(purse, value) for call in OF_AMOUNTS]
                told += [lambda call=call: call(PURSE, purse, value) for call in (can_trade, trade)]
                for call in told:
                    kind, kept = raised(call)
                    self.assertIs(kind, InvalidNumber)
                    self.assertIs(kept, value)

    def test_purses_that_are_not_chained(self):
        for sizes, gap in not_chains():
            purse = Lot({size: 1 for size in sizes})
            for number in (0, 1, 10 ** 100):
                self.assertEqual([raised(call, purse, number) for call in OF_AMOUNTS], [(NoChain, gap)] * 7)
                self.assertEqual(raised(is_pay_paper, purse, number, None), (NoChain, gap))
                for call in (can_trade, trade):
                    self.assertEqual(raised(call, purse, Lot(), number), (NoChain, gap))
                    self.assertEqual(raised(call, Lot(), purse, number), (NoChain, gap))
                self.assertEqual(raised(is_trade, purse, Lot(), number, None), (NoChain, gap))
            self.assertEqual([raised(call, purse) for call in OF_PURSES], [(NoChain, gap)] * 2)
        # Both lots are chained, but not together.
        for call in (can_trade, trade):
            self.assertEqual(raised(call, Lot({2: 1, 6: 1}), Lot({4: 1}), 2), (NoChain, (4, 6)))
            self.assertEqual(raised(call, Lot({6: 1}), Lot({4: 1, 8: 1}), 10 ** 9), (NoChain, (4, 6)))
        self.assertEqual(raised(is_trade, Lot({6: 1}), Lot({4: 1}), 2, None), (NoChain, (4, 6)))

    def test_amounts_that_cannot_be_paid(self):
        for amount in (4, 64, 224, LONGEST):
            for call in (fewest_coins, most_coins):
                self.assertEqual(raised(call, PURSE, amount), (InvalidOperation, None))
        self.assertEqual(raised(trade, Lot({50: 1}), PURSE, 46), (InvalidOperation, None))

    def test_nothing_changes(self):
        purse = Lot({1: 3, 5: 2, 10: 1, 50: 4})
        for call in OF_AMOUNTS:
            self.assertEqual(call(purse, 60), call(purse, 60))
        self.assertEqual((trade(purse, purse, 7), purse), (trade(purse, purse, 7), PURSE))


if __name__ == "__main__":
    unittest.main()
