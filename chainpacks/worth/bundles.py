"""Bundles of things with worths: runs of a worth, of how many such bundles there are, and of what is in each one."""

from chainpacks.base.chains import quotients
from chainpacks.base.runs import number_of_all, part_of_runs


def _single(counts, size):
    """The bundles of one thing each of a size."""
    return [(kind[1], counts[kind], ((kind, 1),)) for kind in sorted(counts) if kind[0] == size]


def worth_of(runs):
    """The worth of all bundles together."""
    return sum([worth * many for worth, many, _ in runs])


def things_in(runs):
    """The dict from the kinds of the things in all bundles to their counts."""
    counts = {}
    for _, many, contents in runs:
        for kind, count in contents:
            counts[kind] = counts.get(kind, 0) + many * count
    return counts


def _bundled(runs, many):
    """Bundles of so many neighbours each; the last one can have fewer."""
    bundles = []
    made = 0
    end = 0
    for worth, number, contents in runs:
        end = end + number
        equal = end // many - made
        if equal > 0:
            bundles.append((worth * many, equal, tuple([(kind, count * many) for kind, count in contents])))
            made = made + equal
        if made * many < end:
            parts = part_of_runs(runs, made * many, made * many + many)
            bundles.append((worth_of(parts), 1, tuple(things_in(parts).items())))
            made = made + 1
    return bundles


def best_runs(counts, chain, numbers):
    """Bundles with the greatest worth, if so many at most of each size of the chain are taken."""
    taken = []
    runs = []
    for size, number, quotient in zip(chain, numbers, quotients(chain) + (1,)):
        runs = sorted(runs + _single(counts, size), reverse=True)
        taken = taken + list(part_of_runs(runs, 0, number))
        # What is left at this size can only be taken in the place of a thing of the next size.
        runs = _bundled(part_of_runs(runs, number, number_of_all(runs)), quotient)
    return taken


def full_runs(counts, chain, numbers, least):
    """Bundles with the greatest or the least worth, if just so many of each size are taken; None if there are none."""
    taken = []
    runs = []
    for size, number, quotient in zip(chain, numbers, quotients(chain) + (1,)):
        runs = runs + _single(counts, size)
        runs = sorted(runs) if least else sorted(runs, reverse=True)
        spared = number_of_all(runs) - number
        if spared < 0:
            return None
        taken = taken + list(part_of_runs(runs, 0, number))
        # A bundle stands for a thing of the next size, so none with fewer neighbours can be taken.
        runs = _bundled(part_of_runs(runs, number, number + spared // quotient * quotient), quotient)
    return taken
