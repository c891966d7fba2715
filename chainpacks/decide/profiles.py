"""Which lots of sizes of a chain a store takes: the profiles of stores, and stores with a profile."""

from chainpacks.base.chains import check_chain, quotients
from chainpacks.base.words import is_count
from chainpacks.decide.levels import check_together
from chainpacks.errors import InvalidOperation
from chainpacks.things.lots import Lot, check_lot
from chainpacks.things.stores import Store, check_store


def profile(chain, store):
    """The tuple of the units of the store at the sizes of the chain."""
    check_chain(chain)
    check_store(store)
    return tuple([store.units(size) for size in chain])


def is_profile(chain, value):
    """Whether the value is the profile of some store."""
    check_chain(chain)
    if not isinstance(value, tuple) or len(value) != len(chain):
        return False
    if not all([is_count(units) for units in value]):
        return False
    return all([many >= 0 for many in plain_counts(chain, value)])


def plain_counts(chain, units):
    """How many rooms of each size of the chain have these units together."""
    # What rooms of greater sizes have at a size is told by the units at the next one.
    above = [high * quotient for high, quotient in zip(units[1:], quotients(chain))] + [0]
    return [low - high for low, high in zip(units, above)]


def _plain(chain, units):
    """The plain store with what surely is a profile, also one of long numbers."""
    runs = [(size, many) for size, many in zip(chain, plain_counts(chain, units)) if many > 0]
    return Store(*runs)


def plain_store(chain, units):
    """The plain store with a profile."""
    if not is_profile(chain, units):
        raise InvalidOperation("not the profile of a store by this chain")
    return _plain(chain, units)


def _pairs(chain, one, other):
    """The pairs of the units of two stores at each size of the chain."""
    return list(zip(profile(chain, one), profile(chain, other)))


def takes_all(chain, one, other):
    """Whether the one store takes all lots that the other one takes."""
    return all([units >= needed for units, needed in _pairs(chain, one, other)])


def are_alike(chain, one, other):
    """Whether both stores take the same lots."""
    return all([units == needed for units, needed in _pairs(chain, one, other)])


def parting_lot(chain, one, other):
    """Any lot of things of a single size that only the other store takes, None if there is none."""
    pairs = _pairs(chain, one, other)
    # The greatest size needs the fewest things.
    for size, (units, needed) in list(zip(chain, pairs))[::-1]:
        if units < needed:
            return Lot({size: units + 1})
    return None


def common_store(chain, one, other):
    """The plain store that takes just the lots that both stores take."""
    units = [min(pair) for pair in _pairs(chain, one, other)]
    return _plain(chain, units)


def joint_store(chain, one, other):
    """The plain store that takes all lots of both stores, and no more than it has to."""
    units = [max(pair) for pair in _pairs(chain, one, other)]
    return _plain(chain, units)


def is_easier(lot, other):
    """Whether the lot fits in each store in which the other one fits."""
    check_lot(lot)
    check_lot(other)
    check_together(lot.sizes + other.sizes)
    return all([lot.units(size) <= other.units(size) for size in lot.sizes])


def parting_store(lot, other):
    """Any store in which only the other lot fits, None if there is none."""
    if is_easier(lot, other):
        return None
    # Each thing of the other lot has a room of its own, so no units are left at any size.
    runs = list(other.counts.items())
    return Store(*runs)
