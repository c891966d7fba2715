"""What is left out of a lot that does not fit: parts with the most things, or with the greatest total."""

from chainpacks.base.runs import part_of_runs
from chainpacks.decide.levels import barring_sizes, check_together, fits, spare
from chainpacks.errors import InvalidOperation
from chainpacks.things.lots import Lot, check_lot
from chainpacks.things.stores import check_store


def _check(lot, store):
    """Raise the error of the first one of these that is wrong, NoChain if the lot is not chained."""
    check_lot(lot)
    check_store(store)
    check_together(lot.sizes)


def most_things(lot, store):
    """The greatest number of things of a part that fits."""
    return keep_things(lot, store).number


def most_total(lot, store):
    """The greatest total of a part that fits."""
    return keep_total(lot, store).total


def keep_things(lot, store):
    """Any part that fits and has the most things."""
    _check(lot, store)
    return _filled(Lot(), lot, store, lot.sizes)


def keep_total(lot, store):
    """Any part that fits and has the greatest total."""
    _check(lot, store)
    return _filled(Lot(), lot, store, lot.sizes[::-1])


def _filled(part, lot, store, sizes):
    """The part with as many more things of these sizes of the lot as fit, one size after the other."""
    filled = part
    for size in sizes:
        filled = filled.with_count(size, min(lot[size], spare(filled, store, size)))
    return filled


def _is_fitting_part(lot, store, value):
    """Whether the value is a part of the lot that fits."""
    return isinstance(value, Lot) and value.is_part_of(lot) and fits(value, store)


def is_kept_things(lot, store, value):
    """Whether the value is a part that fits and has the most things."""
    most = most_things(lot, store)
    return _is_fitting_part(lot, store, value) and value.number == most


def is_kept_total(lot, store, value):
    """Whether the value is a part that fits and has the greatest total."""
    most = most_total(lot, store)
    return _is_fitting_part(lot, store, value) and value.total == most


def things_paper(lot, store):
    """Any things paper of the lot and the store."""
    part = keep_things(lot, store)
    if part == lot:
        return (part, None)
    return (part, barring_sizes(_one_more(lot, part), store)[-1])


def _one_more(lot, part):
    """The lot of the smallest things of a lot, one more than a part of it has."""
    # The method `smallest` refuses numbers of more than 200 digits, and all counts together can be greater.
    return Lot(dict(part_of_runs(tuple(lot.counts.items()), 0, part.number + 1)))


def total_paper(lot, store):
    """Any total paper of the lot and the store."""
    part = keep_total(lot, store)
    # Below the least size of which something is left out, all things are taken.
    left = [size for size in lot.sizes if part[size] < lot[size]]
    return (part, min(left, default=None))


def is_things_paper(lot, store, value):
    """Whether the value is a things paper of the lot and the store."""
    _check(lot, store)
    if not _is_part_paper(lot, store, value):
        return False
    part, size = value
    return part == lot or size in barring_sizes(_one_more(lot, part), store)


def is_total_paper(lot, store, value):
    """Whether the value is a total paper of the lot and the store."""
    _check(lot, store)
    if not _is_part_paper(lot, store, value):
        return False
    part, size = value
    if part == lot:
        return True
    return part.total == size * store.units(size) + sum([each * lot[each] for each in lot.sizes if each < size])


def _is_part_paper(lot, store, value):
    """Whether the value is a pair of a part that fits, and of a size of the lot, or None if the part is the lot."""
    if not isinstance(value, tuple) or len(value) != 2 or not _is_fitting_part(lot, store, value[0]):
        return False
    return value[1] is None if value[0] == lot else value[1] in lot


def keep_all_of(lot, store, sizes):
    """Any part that fits, has all things of some sizes, and as many things as possible; None if these do not fit."""
    check_lot(lot)
    check_store(store)
    if not _are_sizes_of(lot, sizes):
        raise InvalidOperation("no ascending tuple of sizes of the lot")
    check_together(lot.sizes)
    part = Lot({size: lot[size] for size in sizes})
    if not fits(part, store):
        return None
    return _filled(part, lot, store, [size for size in lot.sizes if size not in sizes])


def _are_sizes_of(lot, value):
    """Whether the value is an ascending tuple of sizes of the lot."""
    if not isinstance(value, tuple) or not all([size in lot for size in value]):
        return False
    return all([low < high for low, high in zip(value, value[1:])])
