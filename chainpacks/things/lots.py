"""Lots: things of at most twelve sizes, so many of each."""

from chainpacks.base.chains import first_gap
from chainpacks.base.checks import check_between, check_count, check_size
from chainpacks.base.lines import numbers_in
from chainpacks.base.runs import number_of_all, part_of_runs, run_at, units_of
from chainpacks.base.words import is_count, is_size
from chainpacks.errors import InvalidLot, InvalidOperation, ParseError, TooMany

MAX_SIZES = 12


def check_lot(value):
    """Raise InvalidLot unless the value is a lot."""
    if not isinstance(value, Lot):
        raise InvalidLot("no lot")


def _are_counts(value):
    """Whether the value is a dict from at most twelve sizes to counts."""
    if not isinstance(value, dict) or len(value) > MAX_SIZES:
        return False
    return all([is_size(size) and is_size(count) for size, count in value.items()])


class Lot:
    """Things of some sizes; it never changes."""

    def __init__(self, counts=None):
        told = {} if counts is None else counts
        if not _are_counts(told):
            raise InvalidLot("no dict from at most twelve sizes to counts of at least 1")
        self._sizes = tuple(sorted(told))
        self._pairs = tuple([(size, told[size]) for size in self._sizes])
        self._counts = dict(self._pairs)

    @classmethod
    def from_lines(cls, *lines):
        """The lot with these lines, in any order."""
        counts = {}
        for index, line in enumerate(lines):
            pair = numbers_in(line, "size N many N")
            if pair is None or pair[0] in counts:
                raise ParseError(index)
            counts[pair[0]] = pair[1]
        return cls(counts)

    @property
    def counts(self):
        """The dict from the sizes to the counts."""
        return dict(self._counts)

    @property
    def sizes(self):
        """The sizes, ascending."""
        return self._sizes

    @property
    def lines(self):
        """The lines, by ascending sizes."""
        return tuple([f"size {size} many {count}" for size, count in self._pairs])

    @property
    def number(self):
        """How many things there are."""
        return number_of_all(self._pairs)

    @property
    def total(self):
        """The sum of size times count."""
        return sum([size * count for size, count in self._pairs])

    @property
    def is_chained(self):
        """Whether the sizes are a chain, or there are none."""
        return first_gap(self._sizes) is None

    def units(self, size):
        """The units at a size."""
        check_size(size)
        if any([each > size and each % size != 0 for each in self._sizes]):
            raise InvalidOperation("the size does not divide each greater size of the lot")
        return units_of(self._pairs, size)

    def smallest(self, number):
        """The lot of the so many smallest things."""
        check_between(number, 0, self.number)
        return Lot(dict(part_of_runs(self._pairs, 0, number)))

    def largest(self, number):
        """The lot of the so many greatest things."""
        check_between(number, 0, self.number)
        return Lot(dict(part_of_runs(self._pairs, self.number - number, self.number)))

    def thing_at(self, index):
        """The size of the thing with this index, smaller things first."""
        check_between(index, 0, self.number - 1)
        return run_at(self._pairs, index)[0]

    def is_part_of(self, value):
        """Whether the value is a lot that has all things of this one."""
        if not isinstance(value, Lot):
            return False
        return all([count <= value[size] for size, count in self._pairs])

    def with_count(self, size, number):
        """The lot with this count of a size, without the size for 0."""
        check_size(size)
        check_count(number)
        counts = {each: count for each, count in self._pairs if each != size}
        if number > 0:
            counts[size] = number
        if len(counts) > MAX_SIZES:
            raise TooMany(MAX_SIZES)
        return Lot(counts)

    def scaled(self, factor):
        """The lot with all sizes times a factor."""
        check_size(factor)
        return Lot({size * factor: count for size, count in self._pairs})

    def __add__(self, other):
        if not isinstance(other, Lot):
            raise InvalidOperation("only a lot can be put to a lot")
        sizes = self._sizes + other._sizes
        counts = {size: self._counts.get(size, 0) + other._counts.get(size, 0) for size in sizes}
        if len(counts) > MAX_SIZES:
            raise TooMany(MAX_SIZES)
        return Lot(counts)

    def __sub__(self, other):
        if not isinstance(other, Lot):
            raise InvalidOperation("only a lot can be taken from a lot")
        sizes = self._sizes + other._sizes
        counts = {size: self._counts.get(size, 0) - other._counts.get(size, 0) for size in sizes}
        if any([count < 0 for count in list(counts.values())]):
            raise InvalidOperation("the lot has not all these things")
        return Lot({size: count for size, count in counts.items() if count > 0})

    def __mul__(self, other):
        if not is_count(other):
            raise InvalidOperation("a lot is taken times an integer of at least 0")
        return Lot({size: count * other for size, count in self._pairs if other > 0})

    def __getitem__(self, at):
        check_size(at)
        return self._counts.get(at, 0)

    def __contains__(self, x):
        return is_size(x) and x in self._counts

    def __iter__(self):
        return iter(self._sizes)

    def __len__(self):
        return len(self._sizes)

    def __eq__(self, other):
        return isinstance(other, Lot) and self._counts == other._counts

    def __str__(self):
        return f"lot of {self.number} things, {len(self._sizes)} sizes"
