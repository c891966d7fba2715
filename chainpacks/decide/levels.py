"""What fits in a store, level by level."""

from chainpacks.base.chains import first_gap
from chainpacks.base.checks import check_size
from chainpacks.base.words import is_integer
from chainpacks.errors import NoChain
from chainpacks.pack.packings import is_packing_of
from chainpacks.pack.rules import pack
from chainpacks.things.lots import check_lot
from chainpacks.things.stores import check_store


def check_together(sizes):
    """Raise NoChain with the gap of these sizes, in any order and however many, if they are no chain."""
    gap = first_gap(sorted(set(sizes)))
    if gap is not None:
        raise NoChain(gap)


def _check(lot, store):
    """Raise the error of the first one of these that is wrong, NoChain if the lot is not chained."""
    check_lot(lot)
    check_store(store)
    check_together(lot.sizes)


def levels_of(lot, store):
    """The triples of the sizes of the lot, and of the units of the lot and of the store at them."""
    _check(lot, store)
    return tuple([(size, lot.units(size), store.units(size)) for size in lot.sizes])


def fits(lot, store):
    """Whether the lot fits."""
    return barring_sizes(lot, store) == ()


def barring_sizes(lot, store):
    """The sizes that bar the lot, ascending."""
    return tuple([size for size, needed, given in levels_of(lot, store) if needed > given])


def spare(lot, store, size):
    """The greatest number of things of this size with which the lot still fits, None if it does not fit."""
    check_lot(lot)
    check_store(store)
    check_size(size)
    check_together(lot.sizes + (size,))
    if not fits(lot, store):
        return None
    # Greater sizes have no units more if there are more things of this one.
    levels = [each for each in lot.sizes + (size,) if each <= size]
    return min([(store.units(each) - lot.units(each)) // (size // each) for each in levels])


def more_rooms(lot, store, room):
    """The least number of rooms like this one with which the lot fits, None if no number is enough."""
    check_lot(lot)
    check_store(store)
    check_size(room)
    number = 0
    for size, needed, given in levels_of(lot, store):
        if needed > given and size > room:
            return None
        if needed > given:
            # Minus floor division of the negative number rounds up.
            number = max(number, -((given - needed) // (room // size)))
    return number


def fit_paper(lot, store):
    """Any fit paper of the lot and the store."""
    barring = barring_sizes(lot, store)
    if barring:
        return ("barred", barring[-1])
    return ("packed", pack(lot, store)[0])


def is_fit_paper(lot, store, value):
    """Whether the value is a fit paper of the lot and the store."""
    barring = barring_sizes(lot, store)
    if not isinstance(value, tuple) or len(value) != 2:
        return False
    word, shown = value
    if word == "packed":
        return is_packing_of(lot, store, shown)
    return word == "barred" and is_integer(shown) and shown in barring
