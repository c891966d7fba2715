"""Things that come in any order: stores in which all find a room, and rows of things that do not in others."""

from chainpacks.base.chains import check_chain
from chainpacks.base.runs import joined_runs, units_of
from chainpacks.base.words import is_count
from chainpacks.errors import InvalidLot
from chainpacks.pack.rules import is_row, is_taken
from chainpacks.things.stores import Store, check_store

MAX_PAIRS = 40
# What is too many is nearly always found out at once; no more tries means that no call takes long.
MOST_TRIES = 3
# The greatest integer of 200 digits, as no exponent is greater than 64.
_LONGEST = (10 ** 50) ** 4 - 1


def _check(chain, store):
    """Raise the error of the first one of these that is wrong."""
    check_chain(chain)
    check_store(store)


def _shutting_rooms(runs, low, size):
    """The numbers of a room that holds a size, and of the first later one with space for a lesser size beside it."""
    first = None
    start = 0
    for room, many in runs:
        beside = room % size >= low
        if first is not None and beside:
            return (first, start)
        if room >= size:
            first = start
            if beside and many > 1:
                return (first, start + 1)
        start = start + many
    return None


def is_open(chain, store):
    """Whether the store is open for the chain."""
    return shutter(chain, store) is None


def shutter(chain, store):
    """Any shutter of the store, None if it is open."""
    _check(chain, store)
    told = []
    for size in chain:
        rooms = _shutting_rooms(store.runs, chain[0], size)
        if rooms is not None:
            told.append((rooms[1], rooms[0], size))
    if not told:
        return None
    # The later room with the least number is told, as numbers can be too long.
    later, index, size = min(told)
    return (size, index, later)


def is_shutter(chain, store, value):
    """Whether the value is a shutter of the store."""
    _check(chain, store)
    if not isinstance(value, tuple) or len(value) != 3 or not all([is_count(each) for each in value]):
        return False
    size, index, later = value
    if size not in chain or not index < later < store.number:
        return False
    # A room that is cut down to a multiple of the least size is one of the size if less than the least one is beside.
    return store.room_at(index) >= size and store.room_at(later) % size >= chain[0]


def fooled_row(chain, store):
    """Any fooled row of at most forty runs, None if the store is open."""
    if is_open(chain, store):
        return None
    for size in chain[::-1]:
        for low in [each for each in chain[::-1] if each < size]:
            row = _found_row(chain, store, low, size)
            if row is not None:
                return row
    raise InvalidLot("each fooled row has more things than a lot can have")


def _found_row(chain, store, low, size):
    """A fooled row in which lesser things shut a room for a size; None if there is none that is not too long."""
    lesser = [each for each in chain[::-1] if low <= each < size]
    smaller = [each for each in chain[::-1] if each < low]
    unit = 0
    for _ in range(MOST_TRIES):
        ahead, behind = _parted(store.runs, size, unit)
        if not any([room % size >= low for room, _ in behind[1:]]):
            return None
        things = _filling(ahead, lesser, smaller)
        greater, free = _things_in(behind, [each for each in chain[::-1] if each >= size])
        if things is None:
            return None
        if free == 0:
            # The last lesser thing takes space of the unit, which so holds none of the size. If it is put beside the
            # units of a later room, there is a place for the last thing of the row.
            row = things + [(low, 1)] + greater + [(size, 1)]
            return joined_runs([pair for pair in row if pair[1] > 0])
        # Too many things of the size would be needed, so lesser things take that many units.
        unit = unit + free
    return None


def _parted(rooms, size, unit):
    """The rooms ahead of a unit of a size, with what is ahead of it in its own room, and those behind it likewise."""
    left = unit
    for at, (room, many) in enumerate(rooms):
        units = room // size
        if left < units * many:
            whole, begun = divmod(left, units)
            ahead = rooms[:at] + ((room, whole), (room % size + begun * size, 1))
            behind = (((units - begun - 1) * size, 1), (room, many - whole - 1)) + rooms[at + 1:]
            return [tuple([run for run in runs if run[1] > 0]) for runs in (ahead, behind)]
        left = left - units * many
    return [rooms, ()]


def _filling(rooms, sizes, smaller):
    """Things that leave no unit of the last of some sizes in rooms; None if there would be too many of all sizes."""
    first = []
    things, free = _things_in(rooms, sizes)
    taken = 0
    for _ in range(MOST_TRIES):
        if free == 0 or not smaller:
            break
        # Smaller things take the first units, as many as there are too few things of these sizes for.
        taken = taken + free
        ahead, behind = _parted(rooms, sizes[-1], taken - 1)
        first = _filling(ahead, smaller[:1], smaller[1:])
        if first is None:
            return None
        first = first + [(smaller[0], 1)]
        things, free = _things_in(behind, sizes)
    return first + things if free == 0 else None


def _things_in(rooms, sizes):
    """The things that fill rooms, the greatest of these sizes first, but not too many; and the units that are free."""
    things = []
    for size in sizes:
        free = units_of(rooms, size) - units_of(things, size)
        # Of the last size there is one thing more.
        most = _LONGEST - 1 if size == sizes[-1] else _LONGEST
        things.append((size, min(free, most)))
    return (things, units_of(rooms, sizes[-1]) - units_of(things, sizes[-1]))


def is_fooled_row(chain, store, value):
    """Whether the value is a fooled row of at most forty runs."""
    _check(chain, store)
    if not is_row(value) or len(value) > MAX_PAIRS or not all([size in chain for size, _ in value]):
        return False
    # The lot of the row is not made: its counts can be too long for that.
    if any([units_of(value, size) > store.units(size) for size, _ in value]):
        return False
    return not is_taken(value, store)


def opened(chain, store):
    """Any store of at most as many runs with the same rooms in an order that is open; None if there is none."""
    if is_open(chain, store):
        return store
    # A room can stand ahead of another one if the greatest size that it holds divides what the other one holds. The
    # sizes that a room is a multiple of, and that it holds, are an interval, and the intervals must stand in order.
    told = []
    for at, (room, _) in enumerate(store.runs):
        # Equal rooms stay apart where others can stand between them, as the numbers of their runs can be too long.
        ahead = len([each for each, _ in store.runs[:at] if each == room])
        told.append(_interval(chain, room) + (ahead, at))
    runs = [store.runs[at] for _, _, _, at in sorted(told)]
    found = Store(*runs)
    return found if is_open(chain, found) else None


def _interval(chain, room):
    """The greatest size of which a room, cut down, is a multiple, and the greatest size that it holds; 0 for none."""
    held = [size for size in chain if size <= room]
    return (max([size for size in held if room % size < chain[0]], default=0), max(held, default=0))
