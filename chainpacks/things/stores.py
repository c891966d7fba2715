"""Stores: rows of rooms, given by runs of equal ones."""

from chainpacks.base.checks import check_between, check_size
from chainpacks.base.lines import numbers_in
from chainpacks.base.runs import is_run, joined_runs, number_of_all, part_of_runs, run_at, units_of, with_run_at
from chainpacks.base.words import is_size
from chainpacks.errors import InvalidOperation, InvalidStore, ParseError, TooMany

MAX_RUNS = 40


def check_store(value):
    """Raise InvalidStore unless the value is a store."""
    if not isinstance(value, Store):
        raise InvalidStore("no store")


def _check_many(runs):
    """Raise TooMany if these are more runs than a store can have."""
    if len(runs) > MAX_RUNS:
        raise TooMany(MAX_RUNS)


class Store:
    """A row of rooms; it never changes."""

    def __init__(self, *runs):
        for run in runs:
            if not is_run(run):
                raise InvalidStore("no pair of a room and of how many there are")
        joined = joined_runs(runs)
        if len(joined) > MAX_RUNS:
            raise InvalidStore("more than forty runs")
        self._runs = joined

    @classmethod
    def from_lines(cls, *lines):
        """The store with these lines, in order."""
        runs = []
        for index, line in enumerate(lines):
            run = numbers_in(line, "room N many N")
            if run is None:
                raise ParseError(index)
            runs.append(run)
        return cls(*runs)

    @property
    def runs(self):
        """The runs, in order."""
        return self._runs

    @property
    def lines(self):
        """The lines, in order."""
        return tuple([f"room {room} many {many}" for room, many in self._runs])

    @property
    def number(self):
        """How many rooms there are."""
        return number_of_all(self._runs)

    @property
    def total(self):
        """The sum of the rooms."""
        return sum([room * many for room, many in self._runs])

    @property
    def greatest(self):
        """The greatest room, 0 if there is none."""
        return max([room for room, _ in self._runs], default=0)

    @property
    def rooms(self):
        """The dict from the rooms to how many there are of each."""
        many_of = {}
        for room, many in sorted(self._runs):
            many_of[room] = many_of.get(room, 0) + many
        return many_of

    def units(self, size):
        """The units at a size."""
        check_size(size)
        return units_of(self._runs, size)

    def room_at(self, index):
        """The room with this index."""
        check_between(index, 0, self.number - 1)
        return run_at(self._runs, index)[0]

    def part(self, first, last):
        """The rooms with the indices from the first one on and below the last one."""
        check_between(first, 0, self.number)
        check_between(last, first, self.number)
        runs = part_of_runs(self._runs, first, last)
        return Store(*runs)

    def backward(self):
        """The rooms the other way round."""
        runs = self._runs[::-1]
        return Store(*runs)

    def ascending(self):
        """The rooms, the smaller ones first."""
        runs = sorted(self._runs)
        return Store(*runs)

    def cut(self, size):
        """Each room cut down to a multiple of the size, without the rooms that are smaller."""
        check_size(size)
        runs = [(room // size * size, many) for room, many in self._runs if room >= size]
        return Store(*runs)

    def capped(self, room):
        """The rooms, those that are greater than this one as great as it."""
        check_size(room)
        runs = [(min(room, each), many) for each, many in self._runs]
        return Store(*runs)

    def exchanged(self, index, room):
        """The rooms with another one in the place of the one with this index."""
        check_between(index, 0, self.number - 1)
        check_size(room)
        runs = with_run_at(self._runs, index, (room, 1))
        _check_many(runs)
        return Store(*runs)

    def each_room(self):
        """Yields the rooms in order."""
        for room, many in self._runs:
            for _ in range(many):
                yield room

    def __add__(self, other):
        if not isinstance(other, Store):
            raise InvalidOperation("only a store can be put behind a store")
        runs = joined_runs(self._runs + other._runs)
        _check_many(runs)
        return Store(*runs)

    def __contains__(self, x):
        return is_size(x) and x in [room for room, _ in self._runs]

    def __iter__(self):
        return iter(self._runs)

    def __len__(self):
        return len(self._runs)

    def __eq__(self, other):
        return isinstance(other, Store) and self._runs == other._runs

    def __str__(self):
        return f"store of {self.number} rooms, {len(self._runs)} runs"
