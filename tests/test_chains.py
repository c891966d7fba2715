"""Stage 2: the module chains, with the promises 0.1 to 0.8, 2.1 and 2.2 as far as it needs them."""

import copy
import unittest

from chainpacks.base import chains
from chainpacks.base.chains import (
    chain_parts, clashing, cut_to, figures_of, gap_of, is_chain, is_chain_parts, is_clashing, is_link, is_sizes,
    joined_chain, longest_chain, many_chains, number_of, quotients,
)
from chainpacks.errors import InvalidNumber, InvalidOperation, InvalidSizes, NoChain, TooMany
from wrong_values import LONGEST, TOO_LONG, not_chains, not_counts, not_size_values, not_sizes, raised

TWELVE = tuple([2 ** k for k in range(12)])
DOUBLES = (2, 3, 4, 6, 9)


class TestExamples(unittest.TestCase):
    def test_first_example(self):
        told = [
            gap_of((1, 2, 6, 8, 24)), is_chain((1, 2, 6)), quotients((1, 2, 6, 24)), figures_of((2, 6, 24), 101),
            number_of((2, 6, 24), 1, (2, 0, 4)),
        ]
        self.assertEqual(told, [(6, 8), True, (2, 3, 4), (1, (2, 0, 4)), 101])

    def test_second_example(self):
        told = [
            longest_chain((1, 2, 3, 4, 8)), many_chains((1, 2, 3, 4)), joined_chain((1, 6), (2, 12)), is_link(2, 24, 6),
            cut_to(6, 35),
        ]
        self.assertEqual(told, [(1, 2, 4, 8), 9, (1, 2, 6, 12), True, 30])

    def test_third_example(self):
        told = [
            clashing((1, 2, 3)), len(chain_parts(DOUBLES)), is_chain_parts((2, 3, 4), ((2, 4), (3,))),
            is_clashing((2, 3, 4, 6), (4, 6)),
        ]
        self.assertEqual(told, [(2, 3), 3, True, True])

    def test_fourth_example(self):
        with self.assertRaises(NoChain) as caught:
            joined_chain((1, 4), (6,))
        self.assertEqual(caught.exception.gap, (4, 6))

    def test_constant(self):
        self.assertEqual(chains.MAX_SIZES, 12)


class TestSizes(unittest.TestCase):
    def test_sizes(self):
        for value in ((1,), (LONGEST,), (1, 2), (2, 3), (1, LONGEST), TWELVE, tuple(range(1, 13)), (5, 7, 11)):
            self.assertIs(is_sizes(value), True, value)

    def test_no_sizes(self):
        for value in not_sizes():
            self.assertIs(is_sizes(value), False, value)
            self.assertIs(is_chain(value), False, value)

    def test_numbers_of_sizes(self):
        for many in range(20):
            self.assertIs(is_sizes(tuple(range(1, many + 1))), 1 <= many <= 12)
            self.assertIs(is_chain(tuple([3 ** k for k in range(many)])), 1 <= many <= 12)

    def test_chains(self):
        for value in ((1,), (5,), (LONGEST,), (1, LONGEST), (3, LONGEST), (1, 2, 6, 24), TWELVE):
            self.assertIs(is_chain(value), True, value)
            self.assertIsNone(gap_of(value))

    def test_sizes_that_are_no_chain(self):
        for value, gap in not_chains():
            self.assertIs(is_sizes(value), True, value)
            self.assertIs(is_chain(value), False, value)
            self.assertEqual(gap_of(value), gap)
            self.assertIsInstance(gap_of(value), tuple)

    def test_only_neighbours_are_a_gap(self):
        self.assertEqual(gap_of((2, 3, 4, 5, 30)), (2, 3))
        self.assertEqual(gap_of((1, 2, 4, 6, 12)), (4, 6))


class TestErrors(unittest.TestCase):
    def calls_with_sizes(self):
        return [
            gap_of, longest_chain, many_chains, chain_parts, clashing, lambda sizes: is_chain_parts(sizes, None),
            lambda sizes: is_clashing(sizes, None),
        ]

    def calls_with_chain(self):
        """Calls whose other arguments are wrong, too, so that the chain is refused first."""
        return [
            quotients, lambda chain: figures_of(chain, -1), lambda chain: number_of(chain, None, None),
            lambda chain: joined_chain(chain, ()), lambda chain: joined_chain((1,), chain), lambda chain: figures_of(chain, 5),
        ]

    def test_no_sizes(self):
        for value in not_sizes():
            for call in self.calls_with_sizes() + self.calls_with_chain():
                self.assertEqual(raised(call, value), (InvalidSizes, None), value)

    def test_no_chain(self):
        for value, gap in not_chains():
            for call in self.calls_with_chain():
                self.assertEqual(raised(call, value), (NoChain, gap), value)
            for call in self.calls_with_sizes():
                self.assertIsNone(raised(call, value), value)

    def test_cut_to(self):
        for value in not_size_values():
            self.assertEqual(raised(cut_to, value, 5), (InvalidNumber, value))
            self.assertEqual(raised(cut_to, value, -7), (InvalidNumber, value))
        for value in not_counts():
            self.assertEqual(raised(cut_to, 5, value), (InvalidNumber, value))

    def test_figures_of(self):
        for value in not_counts():
            self.assertEqual(raised(figures_of, (2, 6), value), (InvalidNumber, value))

    def test_number_of_rest(self):
        for value in not_counts() + [2, 3, LONGEST]:
            for figures in ((0, 0), (9, 9), None):
                self.assertEqual(raised(number_of, (2, 6), value, figures), (InvalidNumber, value))
        self.assertEqual(raised(number_of, (1, 2), 1, (0, 0)), (InvalidNumber, 1))
        self.assertEqual(raised(number_of, (LONGEST,), LONGEST, (0,)), (InvalidNumber, LONGEST))

    def test_number_of_figures(self):
        wrong = [value for value in not_sizes() if value not in ((0, 1), (2, 1), (1, 1), (2, 2))] + [
            (0,), (1, 0, 0), (3, 0), (LONGEST, 0), (0, -1), (-1, 0), (0, TOO_LONG), (True, 0), (0, True), (False, 0),
            (0, False), [1, 0], {0: 0, 1: 0}, (None, 0), (0, "1"), ((0,), (0,)), (0, 0, 0), 6,
        ]
        for value in wrong:
            self.assertEqual(raised(number_of, (2, 6), 1, value), (InvalidOperation, None), value)

    def test_joined_chain_order(self):
        self.assertEqual(raised(joined_chain, (2, 3), []), (NoChain, (2, 3)))
        self.assertEqual(raised(joined_chain, (2, 3), (4, 6)), (NoChain, (2, 3)))
        self.assertEqual(raised(joined_chain, (), (4, 6)), (InvalidSizes, None))
        self.assertEqual(raised(joined_chain, (5,), (4, 6)), (NoChain, (4, 6)))
        self.assertEqual(raised(joined_chain, (5,), (6, 4)), (InvalidSizes, None))
        self.assertEqual(raised(joined_chain, TWELVE, (3,)), (TooMany, 12))
        self.assertEqual(raised(joined_chain, (2, 6, 12), (4,)), (NoChain, (4, 6)))

    def test_is_link(self):
        for value in not_size_values():
            self.assertEqual(raised(is_link, value, 6, 3), (InvalidNumber, value))
            self.assertEqual(raised(is_link, value, -6, 3), (InvalidNumber, value))
            self.assertEqual(raised(is_link, 2, value, 3), (InvalidNumber, value))
        for low, high in ((2, 3), (6, 2), (2, 1), (7, LONGEST + 1 - 7)):
            for value in (1, low, high, None, (1,)):
                self.assertEqual(raised(is_link, low, high, value), (InvalidOperation, None))


class TestNumbers(unittest.TestCase):
    def test_quotients(self):
        self.assertEqual(quotients((5,)), ())
        self.assertEqual(quotients(TWELVE), (2,) * 11)
        self.assertEqual(quotients((3, LONGEST)), (LONGEST // 3,))

    def test_cut_to(self):
        for size in range(1, 12):
            for number in range(60):
                self.assertEqual(cut_to(size, number), max(k for k in range(number + 1) if k % size == 0))
        self.assertEqual(cut_to(LONGEST, LONGEST), LONGEST)
        self.assertEqual(cut_to(LONGEST, LONGEST - 1), 0)
        self.assertEqual(cut_to(1, LONGEST), LONGEST)

    def test_figures_and_numbers(self):
        for chain in ((1,), (3,), (1, 2, 6), (2, 6, 24), (5, 10, 40), TWELVE):
            steps = [high // low for low, high in zip(chain, chain[1:])]
            for number in list(range(0, 150)) + [4095, 4096, LONGEST]:
                rest, figures = figures_of(chain, number)
                self.assertIsInstance(figures, tuple)
                self.assertEqual(len(figures), len(chain))
                self.assertTrue(0 <= rest < chain[0])
                self.assertTrue(all(0 <= figure < step for figure, step in zip(figures, steps)))
                self.assertEqual(rest + sum(f * size for f, size in zip(figures, chain)), number)
                self.assertEqual(number_of(chain, rest, figures), number)

    def test_figures_about_the_last_size(self):
        self.assertEqual(figures_of((2, 6, 24), 0), (0, (0, 0, 0)))
        self.assertEqual(figures_of((2, 6, 24), 23), (1, (2, 3, 0)))
        self.assertEqual(figures_of((2, 6, 24), 24), (0, (0, 0, 1)))
        self.assertEqual(figures_of((2, 6, 24), 25), (1, (0, 0, 1)))
        self.assertEqual(figures_of((5,), 4), (4, (0,)))
        self.assertEqual(figures_of((5,), 5), (0, (1,)))

    def test_figures_next_to_their_quotient(self):
        self.assertEqual(number_of((2, 6, 24), 1, (2, 3, 99)), 2399)
        for figures in ((3, 0, 0), (0, 4, 0), (3, 4, 0), (0, 0), (0, 0, 0, 0)):
            self.assertEqual(raised(number_of, (2, 6, 24), 1, figures), (InvalidOperation, None))
        self.assertEqual(number_of((2, 6, 24), 0, (0, 0, LONGEST)), 24 * LONGEST)
        self.assertEqual(number_of((5,), 4, (0,)), 4)

    def test_joined_chain(self):
        self.assertEqual(joined_chain((1,), (1,)), (1,))
        self.assertEqual(joined_chain((12,), (2, 4)), (2, 4, 12))
        self.assertEqual(joined_chain((1, 6), (6, 12)), (1, 6, 12))
        self.assertEqual(joined_chain(TWELVE[::2], TWELVE[1::2]), TWELVE)
        self.assertEqual(joined_chain(TWELVE, TWELVE), TWELVE)
        self.assertEqual(raised(joined_chain, TWELVE, (2 ** 12,)), (TooMany, 12))
        self.assertEqual(raised(joined_chain, TWELVE, (1, 2 ** 12)), (TooMany, 12))

    def test_is_link(self):
        for low, high in ((1, 1), (2, 24), (1, 36), (6, 6), (5, 60)):
            for value in range(-2, 70):
                expected = value >= 1 and value % low == 0 and high % value == 0
                self.assertIs(is_link(low, high, value), expected)
        for value in not_size_values():
            self.assertIs(is_link(1, 6, value), False)
        self.assertIs(is_link(1, LONGEST, LONGEST // 9), True)


def parts_of(things):
    """All parts of some things, the empty one among them."""
    found = [()]
    for thing in things:
        found = found + [part + (thing,) for part in found]
    return found


def partings(things):
    """All ways to part some things, each one a list of tuples."""
    if not things:
        return [[]]
    found = []
    for ways in partings(things[:-1]):
        for k, part in enumerate(ways):
            found.append(ways[:k] + [part + things[-1:]] + ways[k + 1:])
        found.append(ways + [things[-1:]])
    return found


def divides(sizes):
    """Whether each of the ascending sizes divides the next one."""
    return all(high % low == 0 for low, high in zip(sizes, sizes[1:]))


def clash(sizes):
    """Whether no one of the ascending sizes divides another one."""
    return all(high % low != 0 for k, low in enumerate(sizes) for high in sizes[k + 1:])


SMALL = [part for part in parts_of(range(1, 9)) if part]
MIXED = [part for part in parts_of((1, 2, 3, 4, 6, 9, 12, 18)) if part]
LARGE = [
    TWELVE, tuple(range(1, 13)), tuple(range(2, 14)), tuple(range(12, 24)), (2, 3, 5, 7, 11, 13, 17, 19, 23, 29, 31, 37),
    (1, 2, 3, 4, 6, 8, 12, 16, 24, 32, 48, 96), (2, 3, 4, 6, 9, 12, 18, 27, 36, 54, 81, 108), (4, 5, 6, 8, 10, 12, 15, 20, 24),
    (2, 3, 4, 5, 6, 10, 12, 15, 20, 30, 60, LONGEST - LONGEST % 60),
]


class TestLooksAtAllParts(unittest.TestCase):
    def test_chains_of_sizes(self):
        for sizes in SMALL + MIXED + LARGE:
            told = [part for part in parts_of(sizes) if part and divides(part)]
            longest = longest_chain(sizes)
            self.assertIn(longest, told)
            self.assertEqual(len(longest), max(map(len, told)))
            self.assertEqual(many_chains(sizes), len(told))

    def test_clashing_sizes(self):
        for sizes in SMALL + MIXED + LARGE:
            told = [part for part in parts_of(sizes) if clash(part)]
            most = max(map(len, told))
            self.assertIn(clashing(sizes), told)
            self.assertEqual(len(clashing(sizes)), most)
            for part in parts_of(sizes):
                self.assertIs(is_clashing(sizes, part), len(part) == most and clash(part))

    def test_parts_of_sizes(self):
        for sizes in SMALL + MIXED:
            ways = [tuple(sorted(way)) for way in partings(sizes)]
            least = min(len(way) for way in ways if all(map(divides, way)))
            for way in ways:
                expected = len(way) == least and all(map(divides, way))
                self.assertIs(is_chain_parts(sizes, way), expected, way)
                if expected and len(way) > 1:
                    self.assertIs(is_chain_parts(sizes, way[::-1]), False)
            self.assertIn(chain_parts(sizes), ways)
            self.assertIs(is_chain_parts(sizes, chain_parts(sizes)), True)

    def test_parts_are_as_many_as_clash(self):
        for sizes in LARGE:
            parts = chain_parts(sizes)
            self.assertEqual(len(parts), max(len(part) for part in parts_of(sizes) if clash(part)))
            self.assertEqual(sorted(size for part in parts for size in part), list(sizes))
            self.assertTrue(all(map(divides, parts)))
            self.assertEqual(list(parts), sorted(parts))
            self.assertIs(is_chain_parts(sizes, parts), True)


class TestJudges(unittest.TestCase):
    def test_values_of_other_kinds(self):
        for value in not_sizes():
            self.assertIs(is_clashing((2, 3, 4), value), False, value)
            self.assertIs(is_chain_parts((2, 3, 4), value), False, value)
        self.assertIs(is_clashing((1,), (True,)), False)
        self.assertIs(is_clashing((1,), (1,)), True)
        self.assertIs(is_chain_parts((1,), ((True,),)), False)
        self.assertIs(is_chain_parts((1,), ((1,),)), True)

    def test_near_clashing_sizes(self):
        self.assertIs(is_clashing((2, 3, 4), (2, 3)), True)
        self.assertIs(is_clashing((2, 3, 4), (3, 4)), True)
        for value in ((3, 2), (4, 3), [2, 3], (2, 4), (2,), (), (2, 5), (3, 5), (2, 3, 4), (2, 3, 5), (3, 3), {2: 3}):
            self.assertIs(is_clashing((2, 3, 4), value), False, value)

    def test_near_chain_parts(self):
        self.assertIs(is_chain_parts((2, 3, 4), ((2, 4), (3,))), True)
        wrong = (
            ((3,), (2, 4)), ((2,), (3,), (4,)), ((2, 4), (3,), ()), ((), (2, 4), (3,)), ((2, 4),), ((2, 4), (2, 3)),
            ((2, 4), (3,), (3,)), ((2, 4), (3, 9)), ((2, 3), (4,)), ((4, 2), (3,)), [(2, 4), (3,)], ([2, 4], [3]),
            ((2, 4), [3]), ((2, 4), 3), (2, 3, 4), ((2, 3, 4),), ((2, 4), (2,), (3,)), {(2, 4): 1, (3,): 1}, (),
            (((2, 4),), ((3,),)), ((2, 4), ("3",)), ((2, 4), None), ((2, 4), (3, 12)), ((2, 8), (3,)),
        )
        for value in wrong:
            self.assertIs(is_chain_parts((2, 3, 4), value), False, value)


class TestConventions(unittest.TestCase):
    def test_equal_calls_return_equal_results(self):
        for sizes in MIXED[::7] + LARGE:
            for call in (gap_of, longest_chain, many_chains, chain_parts, clashing):
                self.assertEqual(call(sizes), call(tuple(list(sizes))))

    def test_results_are_tuples(self):
        for told in (quotients(TWELVE), figures_of((2, 6), 9), joined_chain((1,), (2,)), longest_chain(DOUBLES),
                     chain_parts(DOUBLES), clashing(DOUBLES)):
            self.assertIs(type(told), tuple)
        self.assertTrue(all(type(part) is tuple for part in chain_parts(DOUBLES)))

    def test_arguments_are_not_changed(self):
        for value in ([1, [2, 3]], {1: [2]}, ([1], {2: 3}), [[2, 4], [3]]):
            kept = copy.deepcopy(value)
            for call in (is_sizes, is_chain, gap_of, quotients, lambda told: is_chain_parts((2, 3, 4), told),
                         lambda told: is_clashing((2, 3), told), lambda told: number_of((1, 2), 0, told)):
                raised(call, value)
                self.assertEqual(value, kept)

    def test_arguments_are_passed_under_their_names(self):
        self.assertEqual(number_of(chain=(2, 6), rest=1, figures=(2, 1)), 11)
        self.assertEqual(figures_of(chain=(2, 6), number=11), (1, (2, 1)))
        self.assertEqual(cut_to(size=4, number=7), 4)
        self.assertEqual(joined_chain(one=(1,), other=(2,)), (1, 2))
        self.assertIs(is_link(low=1, high=6, value=2), True)
        self.assertIs(is_chain_parts(sizes=(1,), value=((1,),)), True)
        self.assertIs(is_clashing(sizes=(1,), value=(1,)), True)


if __name__ == "__main__":
    unittest.main()
