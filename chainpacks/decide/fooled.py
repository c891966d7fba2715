"""Lots that fool a rule: they fit, and the rule does not pack them."""

from chainpacks.base.chains import check_sizes, is_chain, quotients
from chainpacks.pack.packings import Packing, filling_with, is_packing_of
from chainpacks.pack.rules import check_rule, pack
from chainpacks.things.lots import Lot
from chainpacks.things.stores import Store


def fooling_pairs(sizes):
    """The triples of two sizes, of which the one does not divide the greater other one, and of a number of things."""
    check_sizes(sizes)
    return tuple([(low, high, high // low + 2) for low in sizes for high in sizes if low < high and high % low != 0])


def fooled_number(sizes):
    """The least number of things with which the rule `first` is fooled, None if it never is."""
    return min([number for _, _, number in fooling_pairs(sizes)], default=None)


def fooled_lot(sizes, *, rule="first"):
    """Any triple of a lot and a store by which the rule is fooled, and of a packing; None if there is none."""
    pairs = fooling_pairs(sizes)
    check_rule(rule)
    if not pairs:
        return None
    if rule == "tightest":
        packing = _tightest_packing(pairs)
    elif rule == "last":
        packing = _first_packing(sizes, pairs).backward()
    else:
        least = fooled_number(sizes)
        packing = _first_packing(sizes, [pair for pair in pairs if pair[2] == least])
    return (packing.lot, packing.store, packing)


def _first_packing(sizes, pairs):
    """A packing that the rule `first` does not find, of so many things as one of these pairs tells."""
    # One lesser thing can be of a smaller size than the others. The least room is taken, as rooms can be too long.
    told = [
        ((number - 2) * low + last, low, high, last, number - 2)
        for low, high, number in pairs
        for last in sizes
        if high % low < last <= low
    ]
    room, low, high, last, many = min(told)
    # The rule puts the greater thing where the lesser ones fill all space, and the last of them finds no room.
    return Packing((room, 1, filling_with(((low, many),), last, 1)), (high, 1, ((high, 1),)))


def _tightest_packing(pairs):
    """A packing that the rule `tightest` does not find."""
    # The pair with the least room is taken.
    _, low, high, number = min([(low + high, low, high, number) for low, high, number in pairs])
    # The rule puts the greater thing where the lesser ones fill all space, as the room beside it is greater.
    return Packing(((number - 1) * low, 1, ((low, number - 1),)), (low + high, 1, ((low, 1), (high, 1))))


def is_fooled_lot(sizes, value, *, rule="first"):
    """Whether the value is a triple of a lot and a store by which the rule is fooled, and of a packing."""
    check_sizes(sizes)
    check_rule(rule)
    if not isinstance(value, tuple) or len(value) != 3:
        return False
    lot, store, packing = value
    if not isinstance(lot, Lot) or not isinstance(store, Store):
        return False
    if not all([size in sizes for size in lot.sizes]) or not is_packing_of(lot, store, packing):
        return False
    return len(pack(lot, store, rule=rule)[1]) > 0


def safe_paper(sizes):
    """Any safe paper of the sizes."""
    told = fooled_lot(sizes)
    if told is None:
        return ("chain", quotients(sizes))
    return ("fooled", *told)


def is_safe_paper(sizes, value):
    """Whether the value is a safe paper of the sizes."""
    check_sizes(sizes)
    if not isinstance(value, tuple) or len(value) == 0:
        return False
    if value[0] == "chain":
        return is_chain(sizes) and value[1:] == (quotients(sizes),)
    if value[0] != "fooled" or not is_fooled_lot(sizes, value[1:]):
        return False
    return value[1].number == fooled_number(sizes)
