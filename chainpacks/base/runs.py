"""Runs: tuples of what stands there and how many of it, one behind the other, perhaps with more behind these two."""

from chainpacks.base.words import is_size


def is_run(value):
    """Whether the value is a pair of integers of at least 1."""
    return isinstance(value, tuple) and len(value) == 2 and is_size(value[0]) and is_size(value[1])


def number_of_all(runs):
    """How many there are in all runs together."""
    return sum([run[1] for run in runs])


def units_of(runs, size):
    """The units of runs of things or of rooms at a size: what is smaller than it has none."""
    return sum([run[1] * (run[0] // size) for run in runs])


def joined_runs(runs):
    """The runs, where neighbours that are equal but for how many there are have become one."""
    joined = []
    for run in runs:
        if joined and joined[-1][0] == run[0] and joined[-1][2:] == run[2:]:
            joined[-1] = (run[0], joined[-1][1] + run[1]) + run[2:]
        else:
            joined.append(run)
    return tuple(joined)


def part_of_runs(runs, first, last):
    """The runs of those with the indices from the first one on and below the last one."""
    part = []
    start = 0
    for run in runs:
        end = start + run[1]
        many = min(end, last) - max(start, first)
        if many > 0:
            part.append((run[0], many) + run[2:])
        start = end
    return tuple(part)


def run_at(runs, index):
    """A run of the single one with this index."""
    return part_of_runs(runs, index, index + 1)[0]


def with_run_at(runs, index, run):
    """The runs with this run in the place of the single one with an index."""
    ahead = part_of_runs(runs, 0, index)
    behind = part_of_runs(runs, index + 1, number_of_all(runs))
    return joined_runs(ahead + (run,) + behind)
