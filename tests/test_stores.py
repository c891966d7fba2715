"""Stage 4: the class Store, with the promises 0.1 to 0.6, 0.9, 0.11 and 4.1 as far as it needs them."""

import itertools
import unittest

from chainpacks.errors import InvalidNumber, InvalidOperation, InvalidStore, ParseError, TooMany
from chainpacks.pack.packings import Packing
from chainpacks.things import stores
from chainpacks.things.lots import Lot
from chainpacks.things.stores import Store
from wrong_values import (
    LONGEST, TOO_LONG, all_values, not_counts, not_pairs_of_sizes, not_size_values, not_stores, raised,
)

SHELVES = Store((10, 2), (7, 3))
FORTY = Store(*[(1 + at % 2, at + 1) for at in range(40)])


def runs_of(rooms):
    """The runs of a list of single rooms."""
    return tuple((room, len(list(group))) for room, group in itertools.groupby(rooms))


def small_rows():
    """Rows of at most four rooms, as lists of all single rooms."""
    return [list(row) for many in range(5) for row in itertools.product((1, 2, 3, 7), repeat=many)]


def store_of(rooms):
    """The store of single rooms, each one told by a run of its own."""
    return Store(*[(room, 1) for room in rooms])


class TestExamples(unittest.TestCase):
    def test_first_example(self):
        told = [
            SHELVES.number, SHELVES.total, SHELVES.units(6), SHELVES.units(2), SHELVES.room_at(2), SHELVES.greatest,
            SHELVES.rooms,
        ]
        self.assertEqual(told, [5, 41, 5, 19, 7, 10, {7: 3, 10: 2}])

    def test_second_example(self):
        told = [
            SHELVES.backward().runs, SHELVES.part(1, 4).runs, SHELVES.cut(4).runs, SHELVES.cut(8).runs,
            SHELVES.capped(7).runs, SHELVES.exchanged(0, 7).runs,
        ]
        self.assertEqual(told, [
            ((7, 3), (10, 2)), ((10, 1), (7, 2)), ((8, 2), (4, 3)), ((8, 2),), ((7, 5),), ((7, 1), (10, 1), (7, 3)),
        ])

    def test_third_example(self):
        told = [
            (SHELVES + SHELVES.backward()).runs, SHELVES.lines, list(SHELVES.each_room()), str(Store()),
            Store((3, 1), (3, 2)) == Store((3, 3)),
        ]
        self.assertEqual(told, [
            ((10, 2), (7, 6), (10, 2)), ("room 10 many 2", "room 7 many 3"), [10, 10, 7, 7, 7],
            "store of 0 rooms, 0 runs", True,
        ])

    def test_constant(self):
        self.assertEqual(stores.MAX_RUNS, 40)


class TestRooms(unittest.TestCase):
    """Stores against lists of all single rooms."""

    def test_numbers(self):
        for rooms in small_rows():
            store, runs = store_of(rooms), runs_of(rooms)
            self.assertEqual(store.runs, runs)
            self.assertEqual(list(store), list(runs))
            self.assertEqual((store.number, store.total, len(store)), (len(rooms), sum(rooms), len(runs)))
            self.assertEqual(store.greatest, max(rooms + [0]))
            self.assertEqual(list(store.rooms.items()), [(room, rooms.count(room)) for room in sorted(set(rooms))])
            self.assertEqual(list(store.each_room()), rooms)
            self.assertEqual(str(store), f"store of {len(rooms)} rooms, {len(runs)} runs")
            self.assertEqual(store.lines, tuple(f"room {room} many {many}" for room, many in runs))
            self.assertEqual(Store.from_lines(*store.lines), store)
            self.assertEqual([room in store for room in range(9)], [room in rooms for room in range(9)])

    def test_units(self):
        for rooms in small_rows():
            for size in range(1, 9):
                self.assertEqual(store_of(rooms).units(size), sum(room // size for room in rooms))

    def test_places(self):
        for rooms in small_rows():
            store = store_of(rooms)
            self.assertEqual([store.room_at(index) for index in range(len(rooms))], rooms)
            for index in (-1, len(rooms), len(rooms) + 1, LONGEST):
                self.assertEqual(raised(store.room_at, index), (InvalidNumber, index))
                self.assertEqual(raised(store.exchanged, index, 1), (InvalidNumber, index))
            for first, last in itertools.product(range(-1, len(rooms) + 2), repeat=2):
                if not 0 <= first <= len(rooms):
                    self.assertEqual(raised(store.part, first, last), (InvalidNumber, first))
                elif not first <= last <= len(rooms):
                    self.assertEqual(raised(store.part, first, last), (InvalidNumber, last))
                else:
                    self.assertEqual(store.part(first, last), store_of(rooms[first:last]))

    def test_other_orders_and_cuts(self):
        for rooms in small_rows():
            store = store_of(rooms)
            self.assertEqual(store.backward(), store_of(rooms[::-1]))
            self.assertEqual(store.ascending(), store_of(sorted(rooms)))
            for size in range(1, 9):
                self.assertEqual(store.cut(size), store_of([room // size * size for room in rooms if room >= size]))
                self.assertEqual(store.capped(size), store_of([min(size, room) for room in rooms]))

    def test_exchanged(self):
        for rooms in small_rows():
            for index, room in itertools.product(range(len(rooms)), (1, 2, 5)):
                told = rooms[:index] + [room] + rooms[index + 1:]
                self.assertEqual(store_of(rooms).exchanged(index, room).runs, runs_of(told))

    def test_sums(self):
        rows = small_rows()[::5]
        for one, other in itertools.product(rows, rows):
            self.assertEqual((store_of(one) + store_of(other)).runs, runs_of(one + other))
            self.assertIs(store_of(one) == store_of(other), one == other)
            self.assertIs(store_of(one) != store_of(other), one != other)


class TestEdges(unittest.TestCase):
    def test_no_runs(self):
        for store in (Store(), Store.from_lines(), SHELVES.part(2, 2), SHELVES.part(5, 5), SHELVES.cut(11), Store() + Store()):
            self.assertEqual((store.runs, store.lines, store.number, store.total), ((), (), 0, 0))
            self.assertEqual((store.greatest, store.rooms, store.units(1), len(store)), (0, {}, 0, 0))
            self.assertEqual((list(store), list(store.each_room()), str(store)), ([], [], "store of 0 rooms, 0 runs"))
            self.assertEqual((store.backward(), store.ascending(), store.cut(1)), (store, store, store))
            self.assertEqual((store.capped(1), store.part(0, 0), store + SHELVES), (store, store, SHELVES))
            self.assertEqual(raised(store.room_at, 0), (InvalidNumber, 0))
            self.assertEqual(raised(store.exchanged, 0, 1), (InvalidNumber, 0))
            self.assertEqual(raised(store.part, 0, 1), (InvalidNumber, 1))

    def test_neighbours_with_equal_rooms(self):
        self.assertEqual(Store((3, 1), (3, 2), (4, 1), (3, 1), (3, 5)).runs, ((3, 3), (4, 1), (3, 6)))
        self.assertEqual(Store.from_lines("room 3 many 1", "room 3 many 2").lines, ("room 3 many 3",))
        self.assertEqual((SHELVES + Store((7, 1), (10, 1))).runs, ((10, 2), (7, 4), (10, 1)))

    def test_forty_and_forty_one_runs(self):
        runs = list(FORTY.runs)
        self.assertEqual(len(FORTY), 40)
        self.assertEqual(raised(Store, *runs, (1, 1)), (InvalidStore, None))
        self.assertEqual(Store(*runs, (2, 1)).number, FORTY.number + 1)
        self.assertEqual(Store(*[(5, 1)] * 500).runs, ((5, 500),))
        self.assertEqual(len(Store(*[(1 + at % 80 // 2, 1) for at in range(80)])), 40)
        self.assertEqual(raised(Store, *[(1 + at // 2, 1) for at in range(82)]), (InvalidStore, None))
        self.assertEqual(raised(lambda: FORTY + Store((1, 1))), (TooMany, 40))
        self.assertEqual(len(FORTY + Store((2, 1))), 40)
        self.assertEqual(raised(lambda: FORTY + FORTY), (TooMany, 40))
        self.assertEqual(len(FORTY + FORTY.backward().part(0, 40)), 40)
        self.assertEqual(FORTY + Store(), FORTY)

    def test_exchanged_in_a_run(self):
        store = Store((4, 2), (5, 5), (6, 2))
        self.assertEqual(store.exchanged(4, 9).runs, ((4, 2), (5, 2), (9, 1), (5, 2), (6, 2)))
        self.assertEqual(store.exchanged(2, 9).runs, ((4, 2), (9, 1), (5, 4), (6, 2)))
        self.assertEqual(store.exchanged(6, 9).runs, ((4, 2), (5, 4), (9, 1), (6, 2)))
        self.assertEqual(store.exchanged(2, 4).runs, ((4, 3), (5, 4), (6, 2)))
        self.assertEqual(store.exchanged(6, 6).runs, ((4, 2), (5, 4), (6, 3)))
        self.assertEqual(store.exchanged(4, 5), store)
        self.assertEqual(Store((4, 1), (5, 1), (4, 2)).exchanged(1, 4).runs, ((4, 4),))

    def test_exchanged_counts_the_runs_behind(self):
        # The first run has a single room, the last one has forty.
        self.assertEqual(len(FORTY.exchanged(0, 3)), 40)
        self.assertEqual(len(FORTY.exchanged(0, 2)), 39)
        self.assertEqual(FORTY.exchanged(FORTY.number - 1, 2), FORTY)
        self.assertEqual(raised(FORTY.exchanged, FORTY.number - 1, 3), (TooMany, 40))
        self.assertEqual(raised(FORTY.exchanged, FORTY.number - 2, 1), (TooMany, 40))
        self.assertEqual(raised(FORTY.exchanged, FORTY.number, 0), (InvalidNumber, FORTY.number))
        self.assertEqual(raised(FORTY.exchanged, FORTY.number - 2, 0), (InvalidNumber, 0))

    def test_parts(self):
        self.assertEqual(SHELVES.part(0, 5), SHELVES)
        self.assertEqual([SHELVES.part(at, at).runs for at in range(6)], [()] * 6)
        self.assertEqual([SHELVES.part(at, at + 1).runs for at in (1, 2)], [((10, 1),), ((7, 1),)])

    def test_cuts(self):
        self.assertEqual(SHELVES.cut(1), SHELVES)
        self.assertEqual(SHELVES.cut(10).runs, ((10, 2),))
        self.assertEqual(SHELVES.cut(11), Store())
        self.assertEqual(Store((7, 1), (3, 4), (6, 2)).cut(6).runs, ((6, 3),))
        self.assertEqual([SHELVES.capped(room).runs for room in (1, 9, 10, 99)],
                         [((1, 5),), ((9, 2), (7, 3)), SHELVES.runs, SHELVES.runs])

    def test_the_same_room_in_several_runs(self):
        store = Store((3, 1), (5, 2), (3, 4), (1, 1), (5, 1))
        self.assertEqual(store.ascending().runs, ((1, 1), (3, 5), (5, 3)))
        self.assertEqual(store.backward().runs, ((5, 1), (1, 1), (3, 4), (5, 2), (3, 1)))
        self.assertEqual(list(store.rooms.items()), [(1, 1), (3, 5), (5, 3)])
        self.assertEqual(FORTY.ascending().runs, ((1, 400), (2, 420)))

    def test_contains_and_equals_take_every_value(self):
        for value in all_values():
            self.assertIs(value in Store((12, 1), (1, 2)), False if isinstance(value, bool) else value in (1, 12))
            same = isinstance(value, Store) and value.runs == ((10, 2), (7, 3))
            self.assertIs(SHELVES == value, same)
            self.assertIs(SHELVES != value, not same)
        self.assertNotEqual(SHELVES, SHELVES.runs)
        self.assertNotEqual(SHELVES, SHELVES.backward())
        self.assertNotEqual(Store(), Lot())
        self.assertNotEqual(Store(), Packing())

    def test_operators_that_are_not_told(self):
        for call in (lambda: SHELVES * 2, lambda: SHELVES - SHELVES, lambda: SHELVES[0], lambda: SHELVES < SHELVES):
            with self.assertRaises(TypeError):
                call()


class TestGreat(unittest.TestCase):
    """Numbers with which nobody can walk through the single rooms."""

    def test_sums(self):
        for figures in (20, 100, 200):
            great = 10 ** (figures - 1)
            store = Store((5 * great, great), (3 * great, 2 * great), (5 * great, 3 * great))
            self.assertEqual((store.number, store.total, store.greatest), (6 * great, 26 * great ** 2, 5 * great))
            self.assertEqual([store.units(size) for size in (1, great, 2 * great, 5 * great, 6 * great)],
                             [26 * great ** 2, 26 * great, 10 * great, 4 * great, 0])
            self.assertEqual(store.rooms, {3 * great: 2 * great, 5 * great: 4 * great})
            self.assertEqual([store.room_at(index) for index in (great - 1, great, 3 * great - 1, 3 * great)],
                             [5 * great, 3 * great, 3 * great, 5 * great])
            self.assertEqual(store.part(great - 1, 3 * great + 1).runs, ((5 * great, 1), (3 * great, 2 * great), (5 * great, 1)))
            self.assertEqual(store.ascending().runs, ((3 * great, 2 * great), (5 * great, 4 * great)))
            self.assertEqual(store.cut(2 * great).runs, ((4 * great, great), (2 * great, 2 * great), (4 * great, 3 * great)))
            self.assertEqual(store.capped(3 * great).runs, ((3 * great, 6 * great),))
            self.assertEqual(store.exchanged(2 * great, 1).runs[1:4],
                             ((3 * great, great), (1, 1), (3 * great, great - 1)))
            self.assertEqual(Store.from_lines(*store.lines), store)
            self.assertEqual(str(store), f"store of {6 * great} rooms, 3 runs")

    def test_longest(self):
        store = Store((LONGEST, LONGEST))
        self.assertEqual((store.number, store.total, store.units(LONGEST)), (LONGEST, LONGEST ** 2, LONGEST))
        self.assertEqual((store.room_at(LONGEST - 1), LONGEST in store), (LONGEST, True))
        self.assertEqual(raised(store.room_at, LONGEST), (InvalidNumber, LONGEST))
        self.assertEqual(store.part(0, LONGEST), store)
        first = 0
        for room in store.each_room():
            first = room
            break
        self.assertEqual(first, LONGEST)


class TestLines(unittest.TestCase):
    def test_no_lines(self):
        wrong = [
            "", " ", "room", "room 1", "room 1 many", "room 1 many ", "room  1 many 3", " room 1 many 3", "room 1 many 3 ",
            "room 1 many 3\n", "\nroom 1 many 3", "room 1 many 3 4", "Room 1 many 3", "room 0 many 3", "room 1 many 0",
            "room 01 many 3", "room 1 many 03", "room -1 many 3", "room 1 many -3", "room +1 many 3", "room 1 many +3",
            "room 1 many 3.0", "room 1_0 many 3", "size 1 many 3", "many 3 room 1", "room 1 many 3 hold nothing",
            "room 1 many " + "1" * 201, "room " + "1" * 201 + " many 1", "room 1 many " + "9" * 7900,
        ]
        for line in wrong + [value for value in all_values() if not isinstance(value, str)]:
            self.assertEqual(raised(Store.from_lines, line), (ParseError, 0), line)
            self.assertEqual(raised(Store.from_lines, "room 5 many 1", line, None), (ParseError, 1), line)

    def test_in_order(self):
        lines = ("room 7 many 2", "room 10 many 1", "room 7 many 1", "room 7 many 4")
        self.assertEqual(Store.from_lines(*lines).runs, ((7, 2), (10, 1), (7, 5)))
        great = "9" * 200
        self.assertEqual(Store.from_lines(f"room {great} many {great}").runs, ((LONGEST, LONGEST),))
        self.assertEqual(SHELVES.from_lines("room 7 many 2"), Store((7, 2)))

    def test_too_many_runs_come_last(self):
        lines = [f"room {1 + at % 2} many 1" for at in range(41)]
        self.assertEqual(len(Store.from_lines(*lines[1:])), 40)
        self.assertEqual(raised(Store.from_lines, *lines), (InvalidStore, None))
        self.assertEqual(raised(Store.from_lines, *lines, "no"), (ParseError, 41))


class TestWrongInputs(unittest.TestCase):
    def test_runs(self):
        for value in not_pairs_of_sizes():
            self.assertEqual(raised(Store, value), (InvalidStore, None), value)
            self.assertEqual(raised(Store, (1, 2), value), (InvalidStore, None), value)
        self.assertEqual(raised(Store, SHELVES), (InvalidStore, None))
        self.assertEqual(raised(Store, SHELVES.runs), (InvalidStore, None))

    def test_sizes_and_rooms(self):
        for value in not_size_values():
            for call in (SHELVES.units, SHELVES.cut, SHELVES.capped, lambda room: SHELVES.exchanged(1, room)):
                kind, kept = raised(call, value)
                self.assertIs(kind, InvalidNumber)
                self.assertIs(kept, value)

    def test_indices(self):
        for value in not_counts():
            for call in (
                SHELVES.room_at, lambda index: SHELVES.exchanged(index, 1), lambda first: SHELVES.part(first, 2),
                lambda last: SHELVES.part(0, last),
            ):
                kind, kept = raised(call, value)
                self.assertIs(kind, InvalidNumber)
                self.assertIs(kept, value)

    def test_the_first_error_comes_first(self):
        self.assertEqual(raised(SHELVES.exchanged, 5, 0), (InvalidNumber, 5))
        self.assertEqual(raised(SHELVES.exchanged, None, True), (InvalidNumber, None))
        self.assertEqual(raised(SHELVES.part, 6, -1), (InvalidNumber, 6))
        self.assertEqual(raised(SHELVES.part, 3, 2), (InvalidNumber, 2))
        self.assertEqual(raised(SHELVES.part, 0, True), (InvalidNumber, True))
        self.assertEqual(raised(SHELVES.part, True, TOO_LONG), (InvalidNumber, True))

    def test_operands(self):
        for value in not_stores():
            self.assertEqual(raised(lambda: SHELVES + value), (InvalidOperation, None), value)
            self.assertEqual(raised(lambda: FORTY + value), (InvalidOperation, None), value)


class TestNothingChanges(unittest.TestCase):
    def test_rooms_are_copied(self):
        store = Store((10, 2), (7, 3))
        rooms = store.rooms
        rooms[7] = 99
        rooms.pop(10)
        self.assertEqual((store.rooms, store.runs), ({7: 3, 10: 2}, ((10, 2), (7, 3))))

    def test_objects_stay(self):
        store = Store((10, 2), (7, 3))
        for call in (
            lambda: store + FORTY, lambda: store.backward(), lambda: store.ascending(), lambda: store.cut(4),
            lambda: store.capped(8), lambda: store.exchanged(1, 7), lambda: store.part(1, 2), lambda: list(store.each_room()),
            lambda: store.lines, lambda: store.units(2), lambda: store + store, lambda: str(store), lambda: list(store),
        ):
            raised(call)
            self.assertEqual(store.runs, ((10, 2), (7, 3)))
            self.assertEqual(len(FORTY), 40)

    def test_properties_are_only_read(self):
        for name in ("runs", "lines", "number", "total", "greatest", "rooms"):
            with self.assertRaises(AttributeError):
                setattr(SHELVES, name, ())


if __name__ == "__main__":
    unittest.main()
