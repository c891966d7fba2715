"""Rules that put things into rooms one by one: the greatest first, or as they come."""

from chainpacks.base.runs import is_run, number_of_all
from chainpacks.errors import InvalidOperation
from chainpacks.pack.packings import Packing, filling_with, plain_load, rooms_of, things_of
from chainpacks.things.lots import MAX_SIZES, Lot, check_lot
from chainpacks.things.stores import check_store

RULES = ("first", "last", "tightest")
MAX_ROW = 200


def is_rule(value):
    """Whether the value is the name of a rule."""
    return isinstance(value, str) and value in RULES


def check_rule(rule):
    """Raise InvalidOperation unless this is the name of a rule."""
    if not is_rule(rule):
        raise InvalidOperation("no rule")


def pack(lot, store, *, rule="first"):
    """The packing that a rule makes of a lot in a store, and the lot of the things that it leaves."""
    check_lot(lot)
    check_store(store)
    check_rule(rule)
    # The last room with enough space is the first one if the rooms stand the other way round.
    turned = rule == "last"
    runs, left = put_all(lot.counts, store.runs[::-1] if turned else store.runs, rule)
    packing = Packing(*runs)
    return (packing.backward() if turned else packing, Lot(left))


def put_all(counts, rooms, rule):
    """The runs of a packing in runs of rooms, and the dict of the counts that are left; for `last` these are turned."""
    runs = _empty_runs(rooms)
    left = {}
    for size in sorted(counts, reverse=True):
        number = counts[size]
        if not left:
            runs, number = _put(runs, _order(runs, rule), size, number)
        if number > 0:
            left[size] = number
    return (runs, left)


def _empty_runs(rooms):
    """The runs of a packing of nothing in runs of rooms."""
    return [(room, many, ()) for room, many in rooms]


def _order(runs, rule):
    """The order in which a rule fills the runs; for `last` they stand the other way round."""
    if rule != "tightest":
        return list(range(len(runs)))
    # A room that has got a thing is tighter than all others, so it is filled before the next one.
    spaces = sorted([(_space(run), at) for at, run in enumerate(runs)])
    return [at for _, at in spaces]


def _space(run):
    """The space that is left in each room of a run."""
    return run[0] - plain_load(run[2])


def _put(runs, order, size, number):
    """The runs with so many things of a size, put into them in this order, and how many of these find no room."""
    pieces = {}
    left = number
    for at in order:
        most = _space(runs[at]) // size
        taken = min(left, most * runs[at][1])
        pieces[at] = [runs[at]] if taken == 0 else _pieces(runs[at], size, most, taken)
        left = left - taken
    return ([piece for spot in range(len(runs)) for piece in pieces[spot]], left)


def _pieces(run, size, most, taken):
    """The runs that a run becomes if its rooms take things of a size: the most things each, until all are taken."""
    room, many, filling = run
    full, rest = divmod(taken, most)
    begun = min(rest, 1)
    pieces = [
        (room, full, filling_with(filling, size, most)),
        (room, begun, filling_with(filling, size, rest)),
        (room, many - full - begun, filling),
    ]
    return [piece for piece in pieces if piece[1] > 0]


def is_greedy(lot, store, value):
    """Whether the value can come about if each thing, the greatest first, goes into any room with enough space."""
    check_lot(lot)
    check_store(store)
    if not isinstance(value, tuple) or len(value) != 2:
        return False
    packing, left = value
    if not isinstance(packing, Packing) or not isinstance(left, Lot):
        return False
    things = things_of(packing.runs)
    sizes = tuple(things) + left.sizes + lot.sizes
    if rooms_of(packing.runs) != store.runs:
        return False
    if any([things.get(size, 0) + left[size] != lot[size] for size in sizes]):
        return False
    return len(left) == 0 or _is_stuck(packing.runs, list(things), left.sizes[-1])


def _is_stuck(runs, sizes, size):
    """Whether no thing smaller than this size is in the rooms, and none of this size finds a room."""
    return all([each >= size for each in sizes]) and all([_space(run) < size for run in runs])


def is_row(value):
    """Whether the value is a row of things."""
    if not isinstance(value, tuple) or len(value) > MAX_ROW or not all([is_run(pair) for pair in value]):
        return False
    return len(set([size for size, _ in value])) <= MAX_SIZES


def _check_row(row):
    """Raise InvalidOperation unless this is a row of things."""
    if not is_row(row):
        raise InvalidOperation("no row of things")


def lot_of(row):
    """The lot of all things of a row."""
    _check_row(row)
    counts = {}
    for size, many in row:
        counts[size] = counts.get(size, 0) + many
    return Lot(counts)


def pack_row(row, store):
    """The packing of the things of a row, each in the first room with enough space, and how many found one."""
    runs, packed = _row_runs(row, store)
    return (Packing(*runs), packed)


def _row_runs(row, store):
    """The runs of the packing of the things of a row, and how many found a room."""
    _check_row(row)
    check_store(store)
    runs = _empty_runs(store.runs)
    packed = 0
    for size, many in row:
        runs, left = _put(runs, list(range(len(runs))), size, many)
        packed = packed + many - left
        if left > 0:
            break
    return (runs, packed)


def is_taken(row, store):
    """Whether all things of a row find a room as they come."""
    # The packing is not made: it is not asked for.
    return _row_runs(row, store)[1] == number_of_all(row)
