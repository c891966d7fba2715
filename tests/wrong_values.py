"""Values of all kinds that a caller may pass, and what a call raises."""

from chainpacks import errors
from chainpacks.pack.packings import Packing
from chainpacks.text.shell import Shell
from chainpacks.things.lots import Lot
from chainpacks.things.stores import Store
from chainpacks.use.bench import Bench
from chainpacks.worth.goods import Goods

LONGEST = 10 ** 200 - 1
TOO_LONG = 10 ** 200
FAR_TOO_LONG = 10 ** 250 - 1


def nested(kind, deep):
    """Lists, tuples or dicts in one another, so many deep."""
    value = 1
    for _ in range(deep):
        value = {"list": [value], "tuple": (value,), "dict": {1: value}}[kind]
    return value


def package_objects():
    """Objects of classes of the package."""
    return [
        errors.PackError("no"), errors.InvalidSizes("no"), errors.ParseError(None), errors.UnknownName("box"),
        errors.NoRoom(6), errors.InvalidNumber(()), errors.NothingToUndo(2), errors.TooMany(12), errors.NoChain((2, 3)),
        Lot(), Lot({1: 1}), Lot({1: 5, 2: 3, 6: 4}), Store(), Store((1, 1)), Store((10, 2), (7, 3)), Packing(),
        Packing((1, 1, ())), Packing((10, 2, ((1, 4), (6, 1))), (7, 3, ())), Goods({}), Goods({(1, 3): 2, (6, 11): 1}),
        Bench((1, 2), Store((7, 3))), Shell(Bench((1,), Store())),
    ]


def not_integers():
    """Values that are no integers of at most 200 digits."""
    return [
        True, False, None, "", "1", "12", "box", "x" * 8000, "\n", (), (1,), (1, 2), (1, True), [], [1], [1, 2], {}, {1: 2},
        {"a": [1]}, nested("list", 8), nested("tuple", 8), nested("dict", 8), [(1, 2), {3: (4,)}],
        TOO_LONG, -TOO_LONG, FAR_TOO_LONG, -FAR_TOO_LONG,
    ] + package_objects()


def not_counts():
    """Values that are no integers of at least 0."""
    return not_integers() + [-1, -LONGEST]


def not_size_values():
    """Values that are no sizes."""
    return not_counts() + [0]


def not_sizes():
    """Values that are no ascending tuples of one to twelve sizes."""
    plain = [value for value in not_integers() if value not in ((1,), (1, 2))]
    return plain + [
        0, 1, -1, LONGEST, (0,), (-1,), (0, 1), (-2, 2), (1, 1), (2, 2), (2, 1), (1, 3, 2), (1, 2, 2), (4, 2, 1), (True,),
        (False,), (True, 2), (1, 2, True), (False, 1), (1, None), (None,), ("1",), ("1", "2"), ((1,),), ((1, 2),),
        (1, (2,)), ([1],), [1, 2, 6], [1], {1: 1, 2: 2}, "12", (TOO_LONG,), (1, TOO_LONG), (FAR_TOO_LONG,),
        tuple(range(1, 14)), tuple([2 ** k for k in range(13)]), tuple(range(1, 500)), list(range(1, 13)),
    ] + [(1, 2, thing) for thing in package_objects()] + [nested("tuple", deep) for deep in range(2, 9)]


def not_chains():
    """Sizes that are no chains, each one with its gap."""
    return [
        ((2, 3), (2, 3)), ((1, 2, 3), (2, 3)), ((1, 2, 6, 8, 24), (6, 8)), ((2, 3, 6), (2, 3)), ((4, 6, 9), (4, 6)),
        ((1, 5, 10, 12, 13), (10, 12)), (tuple(range(1, 13)), (2, 3)), ((7, LONGEST + 1 - 7), (7, LONGEST + 1 - 7)),
        ((2, 4, 8, 16, 32, 64, 128, 256, 512, 1024, 2048, 2050), (2048, 2050)),
    ]


def all_values():
    """Values of all kinds, integers among them."""
    return not_integers() + [0, 1, -1, 2, 12, LONGEST, -LONGEST]


def not_lots():
    """Values that are no lots."""
    return [value for value in all_values() if not isinstance(value, Lot)]


def not_stores():
    """Values that are no stores."""
    return [value for value in all_values() if not isinstance(value, Store)]


def not_packings():
    """Values that are no packings."""
    return [value for value in all_values() if not isinstance(value, Packing)]


def not_benches():
    """Values that are no benches."""
    return [value for value in all_values() if not isinstance(value, Bench)]


def not_goods():
    """Values that are no goods."""
    return [value for value in all_values() if not isinstance(value, Goods)]


def not_pairs_of_sizes():
    """Values that are no pairs of integers of at least 1."""
    return [value for value in all_values() if value != (1, 2)] + [
        (1,), (1, 2, 3), [1, 2], (0, 1), (1, 0), (-1, 2), (2, -1), (True, 1), (1, True), (False, 1), (1, False), (None, 1),
        (1, None), ("1", 1), (1, "1"), ((1,), 1), (1, (1,)), ([1], 1), (1, [1]), ({}, 1), (TOO_LONG, 1), (1, TOO_LONG),
        (FAR_TOO_LONG, 1), (1, FAR_TOO_LONG), (Lot(), 1), (1, Store()),
    ]


def not_fillings():
    """Values that are no fillings of at most twelve sizes."""
    return [value for value in all_values() if value != ()] + [
        ((1, 1), (1, 1)), ((2, 1), (1, 1)), ((1, 1), (3, 1), (2, 1)), [(1, 1)], {1: 1}, ((1, 1), [2, 1]), ((1, 1), None),
        tuple([(size, 1) for size in range(1, 14)]), (((1, 1),),), (1, 1), "((1, 1),)",
    ] + [(pair,) for pair in not_pairs_of_sizes()] + [((1, 1), pair) for pair in not_pairs_of_sizes()]


KEPT = {
    errors.UnknownName: "word", errors.NoRoom: "size", errors.InvalidNumber: "value", errors.NothingToUndo: "many",
    errors.TooMany: "limit", errors.NoChain: "gap", errors.ParseError: "line",
}


def raised(call, *args, **named):
    """The error class and what the error keeps, as a pair, or None if the call raises no error."""
    try:
        call(*args, **named)
    except Exception as error:  # A wrong class of error is what a test has to see.
        kind = error.__class__
        return (kind, getattr(error, KEPT[kind]) if kind in KEPT else None)
    return None
