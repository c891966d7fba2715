"""Things that come in any order: stores in which all find a room, and rows of things that do not in others."""

from chainpacks.base.chains import check_chain
from chainpacks.base.runs import joined_runs, number_of_all, part_of_runs, run_at, units_of
from chainpacks.base.words import is_count
from chainpacks.errors import InvalidLot
from chainpacks.pack.rules import is_row, is_taken
from chainpacks.things.stores import Store, check_store

MAX_PAIRS = 40
# The greatest integer of 200 digits, as no exponent is greater than 64.
_LONGEST = (10 ** 50) ** 4 - 1


def _check(chain, store):
    """Raise the error of the first one of these that is wrong."""
    check_chain(chain)
    check_store(store)


def _shutting_rooms(runs, low, size):
    """The numbers of a room that holds a size, and of the first later one with space for a lesser size beside it."""
    first = None
    start = 0
    for room, many in runs:
        beside = room % size >= low
        if first is not None and beside:
            return (first, start)
        if room >= size:
            first = start
            if beside and many > 1:
                return (first, start + 1)
        start = start + many
    return None


def is_open(chain, store):
    """Whether the store is open for the chain."""
    return shutter(chain, store) is None


def shutter(chain, store):
    """Any shutter of the store, None if it is open."""
    _check(chain, store)
    told = []
    for size in chain:
        rooms = _shutting_rooms(store.runs, chain[0], size)
        if rooms is not None:
            told.append((rooms[1], rooms[0], size))
    if not told:
        return None
    # The later room with the least number is told, as numbers can be too long.
    later, index, size = min(told)
    return (size, index, later)


def is_shutter(chain, store, value):
    """Whether the value is a shutter of the store."""
    _check(chain, store)
    if not isinstance(value, tuple) or len(value) != 3 or not all([is_count(each) for each in value]):
        return False
    size, index, later = value
    if size not in chain or not index < later < store.number:
        return False
    # A room that is cut down to a multiple of the least size is one of the size if less than the least one is beside.
    return store.room_at(index) >= size and store.room_at(later) % size >= chain[0]


def fooled_row(chain, store):
    """Any fooled row of at most forty runs, None if the store is open."""
    if is_open(chain, store):
        return None
    for size in chain[::-1]:
        for low in [each for each in chain[::-1] if each < size]:
            row = _found_row(chain, store, low, size)
            if row is not None:
                return row
    raise InvalidLot("each fooled row has more things than a lot can have")


def _found_row(chain, store, low, size):
    """A fooled row in which lesser things shut a room for a size; None if there is none that is not too long."""
    unit = 0
    for _ in range(2):
        spot = _spot(store.runs, low, size, unit)
        if spot is None:
            return None
        row, left = _row(chain, store.runs, low, size, spot)
        if left == 0:
            return row
        # Too many things of the size would be needed, so lesser things take that many units.
        unit = unit + left
    return None


def _spot(runs, low, size, unit):
    """The number of the room with a unit of a size, and of the unit in it; None if no later room has space beside."""
    start = 0
    left = unit
    for room, many in runs:
        units = room // size
        if left < units * many:
            index = start + left // units
            behind = part_of_runs(runs, index + 1, number_of_all(runs))
            return (index, left % units) if any([later % size >= low for later, _ in behind]) else None
        left = left - units * many
        start = start + many
    return None


def _row(chain, runs, low, size, spot):
    """A row that shuts a unit of a size, None if it is too long, and how many units would be left free behind it."""
    first, unit = spot
    room = run_at(runs, first)[0]
    # Lesser things fill what is ahead, and a last one takes space of the unit, which so holds none of the size.
    ahead = part_of_runs(runs, 0, first) + ((room % size + unit * size, 1),)
    lesser, unfilled = _things_in(ahead, [each for each in chain[::-1] if low <= each < size])
    if unfilled > 0:
        return (None, 0)
    behind = (((room // size - unit - 1) * size, 1),) + part_of_runs(runs, first + 1, number_of_all(runs))
    greater, left = _things_in(behind, [each for each in chain[::-1] if each >= size])
    # If the last lesser thing is put beside the units of a later room, one more thing of the size has its place.
    row = lesser + [(low, 1)] + greater + [(size, 1)]
    return (joined_runs([pair for pair in row if pair[1] > 0]), left)


def _things_in(rooms, sizes):
    """The things that fill rooms, the greatest of these sizes first, but not too many; and the units that are free."""
    things = []
    for size in sizes:
        free = units_of(rooms, size) - units_of(things, size)
        # Of the last size there is one thing more.
        most = _LONGEST - 1 if size == sizes[-1] else _LONGEST
        things.append((size, min(free, most)))
    return (things, units_of(rooms, sizes[-1]) - units_of(things, sizes[-1]))


def is_fooled_row(chain, store, value):
    """Whether the value is a fooled row of at most forty runs."""
    _check(chain, store)
    if not is_row(value) or len(value) > MAX_PAIRS or not all([size in chain for size, _ in value]):
        return False
    # The lot of the row is not made: its counts can be too long for that.
    if any([units_of(value, size) > store.units(size) for size, _ in value]):
        return False
    return not is_taken(value, store)


def opened(chain, store):
    """Any store of at most as many runs with the same rooms in an order that is open; None if there is none."""
    if is_open(chain, store):
        return store
    # A room can stand ahead of another one if the greatest size that it holds divides what the other one holds. The
    # sizes that a room is a multiple of, and that it holds, are an interval, and the intervals must stand in order.
    told = []
    for at, (room, _) in enumerate(store.runs):
        # Equal rooms stay apart where others can stand between them, as the numbers of their runs can be too long.
        ahead = len([each for each, _ in store.runs[:at] if each == room])
        told.append(_interval(chain, room) + (ahead, at))
    runs = [store.runs[at] for _, _, _, at in sorted(told)]
    found = Store(*runs)
    return found if is_open(chain, found) else None


def _interval(chain, room):
    """The greatest size of which a room, cut down, is a multiple, and the greatest size that it holds; 0 for none."""
    held = [size for size in chain if size <= room]
    return (max([size for size in held if room % size < chain[0]], default=0), max(held, default=0))
