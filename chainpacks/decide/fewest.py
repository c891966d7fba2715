"""The fewest rooms and the least loads with which a chained lot fits."""

from chainpacks.base.checks import check_size
from chainpacks.base.runs import part_of_runs, units_of
from chainpacks.base.words import is_size
from chainpacks.decide.levels import barring_sizes, check_together, levels_of
from chainpacks.errors import InvalidOperation, NoRoom
from chainpacks.pack.packings import Packing, is_packing_of, plain_load
from chainpacks.pack.rules import put_all
from chainpacks.things.lots import check_lot
from chainpacks.things.stores import check_store


def _rounded_up(number, divisor):
    """The quotient of two integers, rounded up."""
    return -(-number // divisor)


def fewest_rooms(lot, room):
    """The least number of rooms of this size in which the lot fits."""
    check_lot(lot)
    check_size(room)
    check_together(lot.sizes)
    return fewest_for(lot.counts, room)


def fewest_for(counts, room):
    """The least number of rooms of this size for counts of sizes of a chain, which can be too long for a lot."""
    greatest = max(list(counts), default=0)
    if greatest > room:
        raise NoRoom(greatest)
    things = list(counts.items())
    return max([_rounded_up(units_of(things, size), room // size) for size in counts], default=0)


def least_room(lot, rooms):
    """The least room such that the lot fits in so many of it."""
    check_lot(lot)
    check_size(rooms)
    check_together(lot.sizes)
    return max([_rounded_up(lot.units(size), rooms) * size for size in lot.sizes], default=0)


def _check_fit(lot, store):
    """Raise NoRoom with the greatest size that bars the lot, if it does not fit."""
    barring = barring_sizes(lot, store)
    if barring:
        raise NoRoom(barring[-1])


def _numbers(lot, store):
    """For each size of a lot that fits, the pair of the fewest rooms that have its units, and of the size."""
    rooms = list(store.rooms.items())[::-1]
    return [(_rooms_with(rooms, size, needed), size) for size, needed, _ in levels_of(lot, store)]


def _rooms_with(runs, size, needed):
    """How many rooms, one behind the other, have so many units at a size; there are enough of them."""
    number = 0
    left = needed
    for room, many in runs:
        units = room // size
        if left <= units * many:
            return number + _rounded_up(left, units)
        left = left - units * many
        number = number + many
    return number


def fewest_of(lot, store):
    """The least number of rooms of the store, whichever are chosen, in which the lot fits."""
    _check_fit(lot, store)
    return max([number for number, _ in _numbers(lot, store)], default=0)


def _caps(lot, store):
    """For each size of a lot that fits, the pair of the least cap that leaves its units, and of the size."""
    rooms = list(store.rooms.items())
    return [(_least_units(rooms, size, needed) * size, size) for size, needed, _ in levels_of(lot, store)]


def _least_units(rooms, size, needed):
    """The least number so that rooms, the smaller first, have so many units if none has more than this number."""
    left = needed
    number = sum([many for _, many in rooms])
    for room, many in rooms:
        units = _rounded_up(left, number)
        if units <= room // size:
            return units
        left = left - room // size * many
        number = number - many
    return 0


def least_cap(lot, store):
    """The least room to which all greater ones can be cut down so that the lot still fits."""
    _check_fit(lot, store)
    return max([cap for cap, _ in _caps(lot, store)], default=0)


def _check_things(lot, store):
    """Raise the error of a lot for which there is no paper."""
    _check_fit(lot, store)
    if not lot.sizes:
        raise InvalidOperation("there is no paper for the empty lot")


def rooms_paper(lot, store):
    """Any rooms paper of the lot and the store."""
    _check_things(lot, store)
    number, size = max(_numbers(lot, store))
    chosen = _greatest(store, number)
    # No store of the chosen rooms is made: the numbers of its runs could be too long.
    packed = put_all(lot.counts, [(room, many) for room, many, _ in chosen], "first")[0]
    shown = []
    start = 0
    for room, many, left in chosen:
        shown = shown + list(part_of_runs(packed, start, start + many)) + [(room, left, ())]
        start = start + many
    runs = [run for run in shown if run[1] > 0]
    return (number, Packing(*runs), size)


def _greatest(store, number):
    """For each run of a store, its room, how many are among so many greatest rooms, and how many are not."""
    wanted = {}
    left = number
    for room, many in list(store.rooms.items())[::-1]:
        wanted[room] = min(many, left)
        left = left - wanted[room]
    chosen = []
    for room, many in store.runs:
        # Of equal rooms the first ones are chosen.
        taken = min(many, wanted[room])
        wanted[room] = wanted[room] - taken
        chosen.append((room, taken, many - taken))
    return chosen


def is_rooms_paper(lot, store, value):
    """Whether the value is a rooms paper of the lot and the store."""
    _check_both(lot, store)
    if not _is_triple(lot, store, value):
        return False
    number, packing, size = value
    if number != sum([many for _, many, filling in packing.runs if filling]):
        return False
    return lot.units(size) > units_of(_greatest(store, number - 1), size)


def _check_both(lot, store):
    """Raise the error of the first one of these that is wrong, NoChain if the lot is not chained."""
    check_lot(lot)
    check_store(store)
    check_together(lot.sizes)


def _is_triple(lot, store, value):
    """Whether the value is a triple of a number of at least 1, of a packing of the lot, and of a size of the lot."""
    if not isinstance(value, tuple) or len(value) != 3 or not is_size(value[0]):
        return False
    return is_packing_of(lot, store, value[1]) and value[2] in lot


def cap_paper(lot, store):
    """Any cap paper of the lot and the store."""
    _check_things(lot, store)
    cap, size = max(_caps(lot, store))
    packed = put_all(lot.counts, [(min(room, cap), many) for room, many in store.runs], "first")[0]
    shown = []
    start = 0
    for room, many in store.runs:
        shown = shown + [(room, run[1], run[2]) for run in part_of_runs(packed, start, start + many)]
        start = start + many
    return (cap, Packing(*shown), size)


def is_cap_paper(lot, store, value):
    """Whether the value is a cap paper of the lot and the store."""
    _check_both(lot, store)
    if not _is_triple(lot, store, value):
        return False
    cap, packing, size = value
    if any([plain_load(filling) > cap for _, _, filling in packing.runs]):
        return False
    return lot.units(size) > units_of([(min(room, cap - 1), many) for room, many in store.runs], size)
