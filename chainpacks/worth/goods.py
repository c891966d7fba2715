"""Goods: things with worths; and the best choices from them."""

from chainpacks.base.chains import figures_of, is_chain
from chainpacks.base.checks import check_count
from chainpacks.base.lines import numbers_in
from chainpacks.base.runs import is_run, units_of
from chainpacks.base.words import is_size
from chainpacks.decide.profiles import plain_counts
from chainpacks.errors import InvalidLot, InvalidOperation, InvalidSizes, InvalidStore, ParseError
from chainpacks.things.lots import Lot
from chainpacks.things.stores import MAX_RUNS, check_store
from chainpacks.worth.bundles import best_runs, full_runs, things_in, worth_of

MAX_GOODS = 40
MAX_ROOMS = 12


def _are_goods(value):
    """Whether the value is a dict from at most forty pairs of sizes of a chain and worths to counts."""
    if not isinstance(value, dict) or len(value) > MAX_GOODS:
        return False
    if not all([is_run(kind) and is_size(count) for kind, count in value.items()]):
        return False
    return len(value) == 0 or is_chain(_sizes(value))


def _sizes(counts):
    """The sizes of the things, ascending."""
    return tuple(sorted(set([size for size, _ in counts])))


class Goods:
    """Things with worths; they never change."""

    def __init__(self, counts):
        if not _are_goods(counts):
            raise InvalidLot("no dict from at most forty pairs of sizes of a chain and worths to counts")
        self._kinds = tuple(sorted(counts))
        self._counts = {kind: counts[kind] for kind in self._kinds}

    @classmethod
    def from_lines(cls, *lines):
        """The goods with these lines, in any order."""
        counts = {}
        for index, line in enumerate(lines):
            numbers = numbers_in(line, "size N worth N many N")
            if numbers is None or numbers[:2] in counts:
                raise ParseError(index)
            counts[numbers[:2]] = numbers[2]
        return cls(counts)

    @property
    def counts(self):
        """The dict from the pairs of a size and a worth to the counts."""
        return {kind: self._counts[kind] for kind in self._kinds}

    @property
    def lines(self):
        """The lines, ascending by their pairs."""
        return tuple([f"size {kind[0]} worth {kind[1]} many {self._counts[kind]}" for kind in self._kinds])

    @property
    def lot(self):
        """The lot of all things."""
        counts = {}
        for kind in self._kinds:
            counts[kind[0]] = counts.get(kind[0], 0) + self._counts[kind]
        return Lot(counts)

    @property
    def load(self):
        """The load of all things."""
        return sum([kind[0] * self._counts[kind] for kind in self._kinds])

    @property
    def worth(self):
        """The worth of all things."""
        return sum([kind[1] * self._counts[kind] for kind in self._kinds])

    def is_choice(self, value):
        """Whether the value is a choice from the goods."""
        if not isinstance(value, Goods):
            return False
        return all([count <= self._counts.get(kind, 0) for kind, count in value.counts.items()])

    def less(self, choice):
        """The goods that a choice leaves."""
        if not self.is_choice(choice):
            raise InvalidOperation("no choice from these goods")
        taken = choice.counts
        left = {kind: self._counts[kind] - taken.get(kind, 0) for kind in self._kinds}
        return Goods({kind: count for kind, count in left.items() if count > 0})

    def __contains__(self, x):
        return is_run(x) and x in self._counts

    def __iter__(self):
        return iter(self._kinds)

    def __len__(self):
        return len(self._kinds)

    def __eq__(self, other):
        return isinstance(other, Goods) and self._counts == other._counts

    def __str__(self):
        return f"goods of {len(self._kinds)} kinds, worth {self.worth}"


def _check_goods(value):
    """Raise InvalidLot unless the value is goods."""
    if not isinstance(value, Goods):
        raise InvalidLot("no goods")


def _units(store, goods):
    """The units of a store at the sizes of goods."""
    return [store.units(size) for size in _sizes(goods.counts)]


def _best(goods, units):
    """Bundles of a choice with the greatest worth that fits where there are so many units at the sizes."""
    if len(goods) == 0:
        return []
    chain = _sizes(goods.counts)
    return best_runs(goods.counts, chain, plain_counts(chain, units))


def best_worth(goods, store):
    """The greatest worth of a choice whose lot fits in the store."""
    _check_goods(goods)
    check_store(store)
    return worth_of(_best(goods, _units(store, goods)))


def best_choice(goods, store):
    """Any choice that fits in the store and has the greatest worth."""
    _check_goods(goods)
    check_store(store)
    return Goods(things_in(_best(goods, _units(store, goods))))


def is_best_choice(goods, store, value):
    """Whether the value is a choice that fits in the store and has the greatest worth."""
    best = best_worth(goods, store)
    if not goods.is_choice(value) or value.worth != best:
        return False
    # The lot of the value is not made: its counts can be too long for that.
    things = [(kind[0], count) for kind, count in value.counts.items()]
    return all([units_of(things, size) <= store.units(size) for size in _sizes(value.counts)])


def worths_of(goods, store, sizes):
    """The greatest worths of the choices that fit, if one more room is put to the store, of each of these sizes."""
    _check_goods(goods)
    check_store(store)
    if not isinstance(sizes, tuple) or len(sizes) > MAX_ROOMS or not all([is_size(room) for room in sizes]):
        raise InvalidSizes("no tuple of at most twelve integers of at least 1")
    if len(store) == MAX_RUNS:
        raise InvalidStore("no room can be put to forty runs")
    chain = _sizes(goods.counts)
    units = _units(store, goods)
    more = [[many + room // size for many, size in zip(units, chain)] for room in sizes]
    return tuple([worth_of(_best(goods, each)) for each in more])


def _full(goods, total, least):
    """Bundles of a choice whose load is just the total, with the greatest or the least worth; None if there is none."""
    if len(goods) == 0:
        return [] if total == 0 else None
    chain = _sizes(goods.counts)
    rest, figures = figures_of(chain, total)
    return full_runs(goods.counts, chain, figures, least) if rest == 0 else None


def _full_worth(goods, total, least):
    """The greatest or the least worth of a choice whose load is just the total; None if there is none."""
    _check_goods(goods)
    check_count(total)
    runs = _full(goods, total, least)
    return None if runs is None else worth_of(runs)


def best_full(goods, total):
    """The greatest worth of a choice whose load is just the total; None if there is none."""
    return _full_worth(goods, total, False)


def least_full(goods, total):
    """The least worth of a choice whose load is just the total; None if there is none."""
    return _full_worth(goods, total, True)


def full_choice(goods, total, *, least=False):
    """Any choice whose load is just the total, with the greatest worth or the least one; None if there is none."""
    _check_full(goods, total, least)
    runs = _full(goods, total, least)
    return None if runs is None else Goods(things_in(runs))


def _check_full(goods, total, least):
    """Raise the error of the first one of these that is wrong."""
    _check_goods(goods)
    check_count(total)
    if not isinstance(least, bool):
        raise InvalidOperation("least is neither True nor False")


def is_full_choice(goods, total, value, *, least=False):
    """Whether the value is such a choice, or None if there is none."""
    _check_full(goods, total, least)
    worth = _full_worth(goods, total, least)
    if worth is None:
        return value is None
    return goods.is_choice(value) and value.load == total and value.worth == worth
