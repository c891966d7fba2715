"""Packings: rows of rooms with what is in them, given by runs of equal ones."""

from chainpacks.base.checks import check_between
from chainpacks.base.lines import numbers_in, pairs_in, text_of
from chainpacks.base.runs import is_run, joined_runs, number_of_all, run_at, with_run_at
from chainpacks.base.words import is_size
from chainpacks.errors import InvalidOperation, InvalidPacking, NoRoom, ParseError
from chainpacks.things.lots import Lot, check_lot
from chainpacks.things.stores import Store, check_store

MAX_RUNS = 2000
MAX_STORE = 40
MAX_SIZES = 12


def is_filling(value):
    """Whether the value is a filling of at most twelve sizes."""
    if not isinstance(value, tuple) or len(value) > MAX_SIZES:
        return False
    if not all([is_run(pair) for pair in value]):
        return False
    return all([low[0] < high[0] for low, high in zip(value, value[1:])])


def load_of(filling):
    """The load of a filling."""
    if not is_filling(filling):
        raise InvalidPacking("no filling of at most twelve sizes")
    return plain_load(filling)


def plain_load(filling):
    """The load of what surely is a filling."""
    return sum([size * count for size, count in filling])


def filling_with(filling, size, more):
    """The filling with so many more things of a size, or fewer if the number is below 0."""
    counts = dict(filling)
    counts[size] = counts.get(size, 0) + more
    return tuple([(each, counts[each]) for each in sorted(counts) if counts[each] > 0])


def rooms_of(runs):
    """The runs of the rooms of a packing with these runs, as a store has them."""
    return joined_runs([(room, many) for room, many, _ in runs])


def things_of(runs):
    """The dict from the sizes of all things in these runs of a packing to their counts, ascending."""
    counts = {}
    for _, many, filling in runs:
        for size, count in filling:
            counts[size] = counts.get(size, 0) + many * count
    return {size: counts[size] for size in sorted(counts)}


def is_packing_of(lot, store, value):
    """Whether the value is a packing of the lot in the store."""
    check_lot(lot)
    check_store(store)
    if not isinstance(value, Packing):
        return False
    # The lot and the store of the value are not made: their numbers can be too long for that.
    return rooms_of(value.runs) == store.runs and things_of(value.runs) == lot.counts


def _is_packed_run(value):
    """Whether the value is a triple of a room, of how many there are, and of a filling that is in each of them."""
    if not isinstance(value, tuple) or len(value) != 3:
        return False
    return is_run(value[:2]) and is_filling(value[2]) and plain_load(value[2]) <= value[0]


def _are_packed_runs(runs):
    """Whether these are the runs of a packing."""
    if len(runs) > MAX_RUNS or not all([_is_packed_run(run) for run in runs]):
        return False
    return len(things_of(runs)) <= MAX_SIZES and len(rooms_of(runs)) <= MAX_STORE


def _run_in(line):
    """The run of a packing with this line, None if it is no line."""
    if not isinstance(line, str):
        return None
    head, _, hold = line.partition(" hold ")
    room = numbers_in(head, "room N many N")
    pairs = pairs_in(hold)
    if room is None or pairs is None:
        return None
    if any([high[0] <= low[0] for high, low in zip(pairs, pairs[1:])]):
        return None
    return room + (pairs[::-1],)


def _spot(runs, size, index):
    """The number of the room with the thing with this index, which there is, among those of a size."""
    start = 0
    left = index
    for _, many, filling in runs:
        count = dict(filling).get(size, 0)
        if left < many * count:
            return start + left // count
        left = left - many * count
        start = start + many
    return None


def _many_of_each(runs):
    """The dict from each pair of a room and a filling to how many there are of it."""
    many_of = {}
    for room, many, filling in runs:
        many_of[(room, filling)] = many_of.get((room, filling), 0) + many
    return many_of


class Packing:
    """A row of rooms with their fillings; it never changes."""

    def __init__(self, *runs):
        if not _are_packed_runs(runs):
            raise InvalidPacking("no runs of a packing")
        self._runs = joined_runs(runs)

    @classmethod
    def from_lines(cls, *lines):
        """The packing with these lines, in order."""
        runs = []
        for index, line in enumerate(lines):
            run = _run_in(line)
            if run is None:
                raise ParseError(index)
            runs.append(run)
        return cls(*runs)

    @property
    def runs(self):
        """The runs, in order."""
        return self._runs

    @property
    def lines(self):
        """The lines, in order."""
        return tuple([f"room {room} many {many} hold {text_of(filling[::-1])}" for room, many, filling in self._runs])

    @property
    def lot(self):
        """The lot of all things."""
        return Lot(things_of(self._runs))

    @property
    def store(self):
        """The store of all rooms."""
        runs = rooms_of(self._runs)
        return Store(*runs)

    @property
    def number(self):
        """How many rooms there are."""
        return number_of_all(self._runs)

    @property
    def load(self):
        """The load of all things."""
        return sum([many * plain_load(filling) for _, many, filling in self._runs])

    @property
    def left(self):
        """All space that is left."""
        return sum([many * (room - plain_load(filling)) for room, many, filling in self._runs])

    def room_at(self, index):
        """The pair of the room with this number and of its filling."""
        check_between(index, 0, self.number - 1)
        room, _, filling = run_at(self._runs, index)
        return (room, filling)

    def left_at(self, index):
        """The space that is left in the room with this number."""
        room, filling = self.room_at(index)
        return room - plain_load(filling)

    def spot_of(self, size, index):
        """The number of the room with the thing with this index among those of a size."""
        things = things_of(self._runs)
        if not is_size(size) or size not in things:
            raise NoRoom(size)
        check_between(index, 0, things[size] - 1)
        return _spot(self._runs, size, index)

    def joined(self, other):
        """The packing with the rooms of another one behind."""
        if not isinstance(other, Packing):
            raise InvalidPacking("no packing")
        runs = joined_runs(self._runs + other._runs)
        return Packing(*runs)

    def backward(self):
        """The packing with the rooms the other way round."""
        runs = self._runs[::-1]
        return Packing(*runs)

    def moved(self, source, target, size, *, many=1):
        """The packing with so many things of a size moved from a room to another one."""
        check_between(source, 0, self.number - 1)
        check_between(target, 0, self.number - 1)
        room, filling = self.room_at(source)
        count = dict(filling).get(size, 0) if is_size(size) else 0
        if count == 0:
            raise NoRoom(size)
        check_between(many, 1, count)
        if source == target or self.left_at(target) < size * many:
            raise InvalidOperation("these things cannot be moved there")
        runs = with_run_at(self._runs, source, (room, 1, filling_with(filling, size, -many)))
        room, filling = self.room_at(target)
        runs = with_run_at(runs, target, (room, 1, filling_with(filling, size, many)))
        return Packing(*runs)

    def is_alike(self, value):
        """Whether the value is a packing with just as many rooms of each size and filling."""
        return isinstance(value, Packing) and _many_of_each(self._runs) == _many_of_each(value.runs)

    def __contains__(self, x):
        if not isinstance(x, tuple) or len(x) != 2 or not is_size(x[0]) or not is_filling(x[1]):
            return False
        return x in [(room, filling) for room, _, filling in self._runs]

    def __iter__(self):
        return iter(self._runs)

    def __len__(self):
        return len(self._runs)

    def __eq__(self, other):
        return isinstance(other, Packing) and self._runs == other._runs

    def __str__(self):
        return f"packing of {self.number} rooms, {self.left} left"
