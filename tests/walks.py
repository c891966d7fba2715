"""Walks through single things and single rooms, and looks at all packings, for small lots and stores."""

import functools
import itertools

from chainpacks.pack.packings import Packing
from chainpacks.things.lots import Lot
from chainpacks.things.stores import Store


def store_of(rooms):
    """The store of single rooms."""
    return Store(*[(room, 1) for room in rooms])


def lot_of_things(things):
    """The lot of single things."""
    return Lot({size: things.count(size) for size in things})


def filling_of(things):
    """The filling of single things."""
    return tuple((size, things.count(size)) for size in sorted(set(things)))


def packing_of(rooms, holds):
    """The packing of single rooms with lists of single things in them."""
    return Packing(*[(room, 1, filling_of(held)) for room, held in zip(rooms, holds)])


def all_rows(rooms, most):
    """All rows of at most so many of some rooms."""
    return [row for many in range(most + 1) for row in itertools.product(rooms, repeat=many)]


def all_things(sizes, most):
    """All ascending tuples of at most so many things of some sizes."""
    return [things for many in range(most + 1) for things in itertools.combinations_with_replacement(sizes, many)]


def walk(things, rooms, rule):
    """The things that each room holds, and how many things were put into rooms, one by one."""
    holds = [[] for _ in rooms]
    for packed, thing in enumerate(things):
        left = [room - sum(held) for room, held in zip(rooms, holds)]
        free = [at for at in range(len(rooms)) if left[at] >= thing]
        if not free:
            return holds, packed
        if rule == "first":
            at = free[0]
        elif rule == "last":
            at = free[-1]
        else:
            at = [each for each in free if left[each] == min(left[spot] for spot in free)][0]
        holds[at].append(thing)
    return holds, len(things)


@functools.lru_cache(maxsize=None)
def can_pack(things, rooms):
    """Whether there is a packing of the things in the rooms, by a look at all of them."""
    if not things:
        return True
    for at, room in enumerate(rooms):
        if room >= things[-1] and can_pack(things[:-1], tuple(sorted(rooms[:at] + (room - things[-1],) + rooms[at + 1:]))):
            return True
    return False


def can_fit(things, rooms):
    """Whether single things fit in single rooms."""
    return can_pack(tuple(sorted(things)), tuple(sorted(rooms)))


def all_holds(things, rooms):
    """All ways to put all things into rooms: for each thing the index of a room."""
    found = set()
    for spots in itertools.product(range(len(rooms)), repeat=len(things)):
        holds = [tuple(sorted(thing for thing, spot in zip(things, spots) if spot == at)) for at in range(len(rooms))]
        if all(sum(held) <= room for room, held in zip(rooms, holds)):
            found.add(tuple(holds))
    return sorted(found)
