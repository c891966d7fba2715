"""Stage 5: fillings and the class Packing, with the promises 0.1 to 0.6, 0.10 and 5.1 as far as it needs them."""

import itertools
import unittest

from chainpacks.errors import InvalidLot, InvalidNumber, InvalidOperation, InvalidPacking, InvalidStore, NoRoom, ParseError
from chainpacks.pack import packings
from chainpacks.pack.packings import Packing, is_filling, is_packing_of, load_of
from chainpacks.things.lots import Lot
from chainpacks.things.stores import Store
from walks import all_holds, all_things, filling_of, packing_of, store_of
from wrong_values import (
    LONGEST, TOO_LONG, all_values, not_counts, not_fillings, not_integers, not_lots, not_packings, not_size_values,
    not_stores, raised,
)

PARCELS = Lot({1: 5, 2: 3, 6: 4})
SHELVES = Store((10, 2), (7, 3))
SHOWN = Packing((10, 1, ((1, 4), (6, 1))), (10, 1, ((2, 2), (6, 1))), (7, 2, ((1, 1), (6, 1))), (7, 1, ((2, 1),)))
ROWS = [(), (3,), (4, 4), (3, 4), (4, 3, 3), (2, 4, 2)]


def small_packings():
    """Packings of few things in few rooms, each one with its rooms and what they hold."""
    found = []
    for rooms in ROWS:
        for things in all_things((1, 2, 3), 4):
            found += [(list(rooms), [list(held) for held in holds]) for holds in all_holds(things, rooms)[::3]]
    return found


def runs_of(rooms, holds):
    """The runs of single rooms."""
    pairs = [(room, filling_of(held)) for room, held in zip(rooms, holds)]
    return tuple((room, len(list(group)), filling) for (room, filling), group in itertools.groupby(pairs))


class TestExamples(unittest.TestCase):
    def test_first_example(self):
        told = [
            str(SHOWN), SHOWN.lot == Lot({1: 6, 2: 3, 6: 4}), SHOWN.store == SHELVES, SHOWN.number, SHOWN.load,
            SHOWN.left_at(4),
        ]
        self.assertEqual(told, ["packing of 5 rooms, 5 left", True, True, 5, 36, 5])

    def test_second_example(self):
        told = [
            SHOWN.spot_of(6, 2), SHOWN.spot_of(1, 4), SHOWN.room_at(1), SHOWN.lines[0], (7, ((2, 1),)) in SHOWN, len(SHOWN),
        ]
        self.assertEqual(told, [2, 2, (10, ((2, 2), (6, 1))), "room 10 many 1 hold 6 many 1, 1 many 4", True, 4])

    def test_third_example(self):
        moved = SHOWN.moved(2, 4, 1)
        told = [
            moved.runs[2:], moved.is_alike(SHOWN), is_packing_of(SHOWN.lot, SHELVES, moved),
            is_packing_of(PARCELS, SHELVES, moved),
        ]
        self.assertEqual(told, [
            ((7, 1, ((6, 1),)), (7, 1, ((1, 1), (6, 1))), (7, 1, ((1, 1), (2, 1)))), False, True, False,
        ])

    def test_lines_of_the_document(self):
        lines = ("room 10 many 2 hold 6 many 1, 1 many 4", "room 10 many 2 hold nothing")
        packing = Packing.from_lines(*lines)
        self.assertEqual(packing.runs, ((10, 2, ((1, 4), (6, 1))), (10, 2, ())))
        self.assertEqual(packing.lines, lines)

    def test_constants(self):
        self.assertEqual((packings.MAX_RUNS, packings.MAX_STORE, packings.MAX_SIZES), (2000, 40, 12))


class TestFillings(unittest.TestCase):
    def test_fillings(self):
        for filling, load in (
            ((), 0), (((1, 1),), 1), (((2, 3), (6, 1)), 12), (((2, 1), (3, 1)), 5), (((LONGEST, LONGEST),), LONGEST ** 2),
            (tuple((size, size) for size in range(1, 13)), 650),
        ):
            self.assertIs(is_filling(filling), True)
            self.assertEqual(load_of(filling), load)

    def test_no_fillings(self):
        for value in not_fillings():
            self.assertIs(is_filling(value), False, value)
            self.assertEqual(raised(load_of, value), (InvalidPacking, None), value)
            self.assertEqual(raised(Packing, (LONGEST, 1, value)), (InvalidPacking, None), value)


class TestRooms(unittest.TestCase):
    """Packings against lists of all single rooms with lists of all single things."""

    def test_numbers(self):
        for rooms, holds in small_packings():
            packing, runs = packing_of(rooms, holds), runs_of(rooms, holds)
            load = sum(thing for held in holds for thing in held)
            self.assertEqual(packing.runs, runs)
            self.assertEqual((list(packing), len(packing)), (list(runs), len(runs)))
            self.assertEqual((packing.number, packing.load, packing.left), (len(rooms), load, sum(rooms) - load))
            self.assertEqual(packing.lot, Lot(dict(filling_of([thing for held in holds for thing in held]))))
            self.assertEqual(packing.store, store_of(rooms))
            self.assertEqual(str(packing), f"packing of {len(rooms)} rooms, {sum(rooms) - load} left")
            self.assertEqual(Packing.from_lines(*packing.lines), packing)
            self.assertIs(is_packing_of(packing.lot, packing.store, packing), True)
            self.assertEqual(packing.backward(), packing_of(rooms[::-1], holds[::-1]))

    def test_places(self):
        for rooms, holds in small_packings():
            packing = packing_of(rooms, holds)
            for at, (room, held) in enumerate(zip(rooms, holds)):
                self.assertEqual(packing.room_at(at), (room, filling_of(held)))
                self.assertEqual(packing.left_at(at), room - sum(held))
                self.assertIs((room, filling_of(held)) in packing, True)
                self.assertIs((room + 1, filling_of(held)) in packing, (room + 1, held) in list(zip(rooms, holds)))
            for index in (-1, len(rooms), LONGEST):
                self.assertEqual(raised(packing.room_at, index), (InvalidNumber, index))
                self.assertEqual(raised(packing.left_at, index), (InvalidNumber, index))

    def test_spots(self):
        for rooms, holds in small_packings():
            packing = packing_of(rooms, holds)
            for size in (1, 2, 3, 4):
                spots = [at for at, held in enumerate(holds) for thing in held if thing == size]
                self.assertEqual([packing.spot_of(size, index) for index in range(len(spots))], spots)
                for index in (-1, len(spots), LONGEST):
                    wrong = (InvalidNumber, index) if spots else (NoRoom, size)
                    self.assertEqual(raised(packing.spot_of, size, index), wrong)

    def test_moves(self):
        for rooms, holds in small_packings():
            packing = packing_of(rooms, holds)
            spots = range(len(rooms))
            for source, target, size, many in itertools.product(spots, spots, (1, 2, 3), (1, 2)):
                told = [list(held) for held in holds]
                if size not in told[source]:
                    wrong = (NoRoom, size)
                elif told[source].count(size) < many:
                    wrong = (InvalidNumber, many)
                elif source == target or rooms[target] - sum(told[target]) < many * size:
                    wrong = (InvalidOperation, None)
                else:
                    wrong = None
                if wrong:
                    self.assertEqual(raised(lambda: packing.moved(source, target, size, many=many)), wrong)
                    continue
                for _ in range(many):
                    told[source].remove(size)
                    told[target].append(size)
                moved = packing.moved(source, target, size, many=many)
                self.assertEqual(moved.runs, runs_of(rooms, told))
                self.assertEqual(moved.moved(target, source, size, many=many), packing)
                if many == 1:
                    self.assertEqual(packing.moved(source, target, size), moved)

    def test_joined_and_alike(self):
        chosen = small_packings()[::29]
        for (rooms, holds), (others, held) in itertools.product(chosen, chosen):
            one, other = packing_of(rooms, holds), packing_of(others, held)
            self.assertEqual(one.joined(other).runs, runs_of(rooms + others, holds + held))
            mine = sorted((room, filling_of(things)) for room, things in zip(rooms, holds))
            theirs = sorted((room, filling_of(things)) for room, things in zip(others, held))
            self.assertIs(one.is_alike(other), mine == theirs)
            self.assertIs(one == other, runs_of(rooms, holds) == runs_of(others, held))
            self.assertIs(one != other, runs_of(rooms, holds) != runs_of(others, held))

    def test_packings_of_lots_and_stores(self):
        for rooms in ROWS:
            for things in all_things((1, 2, 3), 3):
                for holds in all_holds(things, rooms):
                    packing = packing_of(rooms, holds)
                    for lot in (Lot(), Lot({1: 1}), Lot({1: 1, 2: 1}), Lot({3: 2}), packing.lot):
                        self.assertIs(is_packing_of(lot, store_of(rooms), packing), lot == packing.lot)
                    for row in ROWS:
                        self.assertIs(is_packing_of(packing.lot, store_of(row), packing), row == rooms)


class TestEdges(unittest.TestCase):
    def test_no_rooms(self):
        for packing in (Packing(), Packing.from_lines(), Packing().joined(Packing()), Packing().backward()):
            self.assertEqual((packing.runs, packing.lines, packing.number, packing.load, packing.left), ((), (), 0, 0, 0))
            self.assertEqual((packing.lot, packing.store, len(packing), list(packing)), (Lot(), Store(), 0, []))
            self.assertEqual(str(packing), "packing of 0 rooms, 0 left")
            self.assertTrue(packing.is_alike(Packing()) and is_packing_of(Lot(), Store(), packing))
            self.assertEqual(raised(packing.room_at, 0), (InvalidNumber, 0))
            self.assertEqual(raised(packing.moved, 0, 0, 1), (InvalidNumber, 0))

    def test_rooms_with_nothing(self):
        packing = Packing((5, 3, ()), (4, 2, ()))
        self.assertEqual((packing.number, packing.load, packing.left, packing.lot), (5, 0, 23, Lot()))
        self.assertEqual(packing.lines, ("room 5 many 3 hold nothing", "room 4 many 2 hold nothing"))
        self.assertTrue((5, ()) in packing and (6, ()) not in packing)
        self.assertEqual(raised(packing.spot_of, 1, 0), (NoRoom, 1))
        self.assertEqual(raised(packing.moved, 0, 1, 1), (NoRoom, 1))
        self.assertIs(is_packing_of(Lot(), Store((5, 3), (4, 2)), packing), True)
        self.assertIs(is_packing_of(Lot({1: 1}), Store((5, 3), (4, 2)), packing), False)

    def test_full_and_too_great_by_one(self):
        self.assertEqual(Packing((12, 2, ((2, 3), (6, 1)))).left, 0)
        self.assertEqual(raised(Packing, (11, 2, ((2, 3), (6, 1)))), (InvalidPacking, None))
        self.assertEqual(raised(Packing, (12, 1, ((2, 3), (6, 1))), (11, 2, ((2, 3), (6, 1)))), (InvalidPacking, None))
        self.assertEqual(raised(Packing, (LONGEST, 1, ((1, 1), (LONGEST, 1)))), (InvalidPacking, None))

    def test_runs_that_become_one(self):
        packing = Packing((5, 1, ((1, 2),)), (5, 2, ((1, 2),)), (5, 1, ()), (5, 1, ((1, 2),)), (6, 1, ((1, 2),)))
        self.assertEqual(packing.runs, ((5, 3, ((1, 2),)), (5, 1, ()), (5, 1, ((1, 2),)), (6, 1, ((1, 2),))))
        self.assertEqual(packing.store.runs, ((5, 5), (6, 1)))
        self.assertEqual(Packing((5, 1, ())).joined(Packing((5, 4, ()), (6, 1, ()))).runs, ((5, 5, ()), (6, 1, ())))
        self.assertEqual(Packing((5, 2, ()), (5, 1, ((1, 1),))).joined(Packing((5, 3, ((1, 1),)))).runs[1], (5, 4, ((1, 1),)))

    def test_moves_from_a_run_of_many(self):
        packing = Packing((9, 5, ((2, 2), (3, 1))), (9, 2, ()), (4, 1, ((2, 1),)))
        self.assertEqual(packing.moved(2, 5, 2).runs, (
            (9, 2, ((2, 2), (3, 1))), (9, 1, ((2, 1), (3, 1))), (9, 2, ((2, 2), (3, 1))), (9, 1, ((2, 1),)), (9, 1, ()),
            (4, 1, ((2, 1),)),
        ))
        self.assertEqual(packing.moved(4, 6, 2, many=2).runs, (
            (9, 4, ((2, 2), (3, 1))), (9, 1, ((3, 1),)), (9, 1, ()), (9, 1, ((2, 2),)), (4, 1, ((2, 1),)),
        ))
        self.assertEqual(packing.moved(7, 5, 2).runs[1:], ((9, 1, ((2, 1),)), (9, 1, ()), (4, 1, ())))
        self.assertEqual(packing.moved(2, 5, 2).moved(5, 2, 2), packing)
        self.assertEqual(packing.moved(0, 1, 2).runs[:2], ((9, 1, ((2, 1), (3, 1))), (9, 1, ((2, 3), (3, 1)))))
        self.assertEqual(raised(lambda: packing.moved(0, 1, 2, many=2)), (InvalidOperation, None))
        self.assertEqual(raised(lambda: packing.moved(0, 5, 2, many=3)), (InvalidNumber, 3))
        self.assertEqual(raised(lambda: packing.moved(0, 0, 2)), (InvalidOperation, None))
        self.assertEqual(raised(packing.moved, 0, 7, 3), (InvalidOperation, None))
        self.assertEqual(packing.moved(0, 7, 2).left_at(7), 0)
        self.assertEqual(raised(packing.moved, 0, 1, 1), (NoRoom, 1))

    def test_twelve_and_thirteen_sizes(self):
        runs = [(size, 1, ((size, 1),)) for size in range(1, 14)]
        self.assertEqual(len(Packing(*runs[:12]).lot), 12)
        self.assertEqual(raised(Packing, *runs), (InvalidPacking, None))
        self.assertEqual(raised(Packing(*runs[:12]).joined, Packing(runs[12])), (InvalidPacking, None))
        self.assertEqual(len(Packing(*runs[:12]).joined(Packing(*runs[:12]))), 24)
        self.assertEqual(len(Packing((99, 1, tuple((size, 1) for size in range(1, 13)))).lot), 12)

    def test_forty_and_forty_one_runs_of_equal_rooms(self):
        runs = [(1 + at // 2 % 2, 1 + at, ((1, 1),) if at % 2 else ()) for at in range(82)]
        forty = Packing(*runs[:80])
        self.assertEqual((len(forty), len(forty.store)), (80, 40))
        self.assertEqual(raised(Packing, *runs), (InvalidPacking, None))
        self.assertEqual(raised(Packing, *runs[:81]), (InvalidPacking, None))
        self.assertEqual(raised(forty.joined, Packing((1, 1, ()))), (InvalidPacking, None))
        self.assertEqual(len(forty.joined(Packing((2, 1, ()))).store), 40)

    def test_two_thousand_runs(self):
        runs = [(9, 2, ((1, 1),) if at % 2 else ()) for at in range(2001)]
        most = Packing(*runs[:2000])
        self.assertEqual((len(most), most.number), (2000, 4000))
        self.assertEqual(raised(Packing, *runs), (InvalidPacking, None))
        self.assertEqual(raised(most.joined, Packing((9, 1, ()))), (InvalidPacking, None))
        self.assertEqual(len(most.joined(Packing((9, 1, ((1, 1),))))), 2000)
        self.assertEqual(raised(most.moved, 2, 0, 1), (InvalidPacking, None))
        self.assertEqual(raised(most.moved, 2, 2, 1), (InvalidOperation, None))
        self.assertEqual(len(Packing(*runs[:1999]).moved(2, 0, 1)), 2000)
        self.assertEqual(len(most.moved(3, 5, 1)), 2000)

    def test_in_and_equals_take_every_value(self):
        packing = Packing((1, 2, ()), (12, 1, ((1, 1),)))
        for value in all_values() + [(1, []), (True, ()), (12, ((True, 1),)), (12, ((1, True),)), (1, (), ()), (12, ((1, 1),), 1)]:
            self.assertIs(value in packing, False, value)
            same = isinstance(value, Packing) and value.runs == packing.runs
            self.assertIs(packing == value, same)
            self.assertIs(packing != value, not same)
        self.assertTrue((1, ()) in packing and (12, ((1, 1),)) in packing)
        self.assertFalse((12, ()) in packing or (1, ((1, 1),)) in packing)
        self.assertNotEqual(packing, packing.runs)

    def test_operators_that_are_not_told(self):
        for call in (lambda: SHOWN + SHOWN, lambda: SHOWN * 2, lambda: SHOWN[0], lambda: SHOWN < SHOWN):
            with self.assertRaises(TypeError):
                call()


class TestGreat(unittest.TestCase):
    def test_sums(self):
        for figures in (20, 100, 200):
            great = 10 ** (figures - 1)
            packing = Packing((9 * great, great, ((great, 2), (3 * great, 1))), (5 * great, 4 * great, ((2, great),)))
            self.assertEqual((packing.number, packing.load, packing.left), (5 * great, 13 * great ** 2, 16 * great ** 2))
            self.assertEqual(packing.store.runs, ((9 * great, great), (5 * great, 4 * great)))
            self.assertEqual(packing.spot_of(great, 2 * great - 1), great - 1)
            self.assertEqual(packing.spot_of(2, great), great + 1)
            self.assertEqual(packing.room_at(5 * great - 1), (5 * great, ((2, great),)))
            self.assertEqual(packing.moved(great, 0, 2, many=great).left_at(0), 2 * great)
            self.assertEqual(Packing.from_lines(*packing.lines), packing)

    def test_a_lot_that_is_too_long(self):
        packing = Packing((LONGEST, LONGEST, ((1, LONGEST),)))
        self.assertEqual((packing.number, packing.load, packing.left), (LONGEST, LONGEST ** 2, 0))
        self.assertIs(is_packing_of(Lot({1: LONGEST}), Store((LONGEST, LONGEST)), packing), False)
        two = Packing((LONGEST, LONGEST, ((1, 1),)), (LONGEST, LONGEST, ()))
        self.assertIs(is_packing_of(Lot({1: LONGEST}), Store((LONGEST, LONGEST)), two), False)
        self.assertIs(two.is_alike(packing), False)
        self.assertIs(two.is_alike(two.backward()), True)
        self.assertEqual(packing.spot_of(1, LONGEST), 1)


class TestLines(unittest.TestCase):
    def test_no_lines(self):
        wrong = [
            "", "room 10 many 2", "room 10 many 2 hold", "room 10 many 2 hold ", "room 10 many 2 hold nothing ",
            "room 10 many 2 hold Nothing", "room 10 many 2 hold  nothing", " room 10 many 2 hold nothing",
            "room 10  many 2 hold nothing", "room 10 many 2  hold nothing", "room 10 many 2 hold nothing\n",
            "room 10 many 2 hold 1 many 4, 6 many 1", "room 10 many 2 hold 6 many 1, 6 many 1", "room 10 many 2 hold 6 many 1,",
            "room 10 many 2 hold 6 many 1,1 many 4", "room 10 many 2 hold 6 many 1,  1 many 4", "room 10 many 2 hold 6 many 1 ,1 many 4",
            "room 10 many 2 hold 6 many 1, nothing", "room 10 many 2 hold nothing, 1 many 1", "room 10 many 2 hold 6 many 0",
            "room 10 many 2 hold 0 many 1", "room 10 many 2 hold 06 many 1", "room 10 many 2 hold 6 many 01",
            "room 0 many 2 hold nothing", "room 10 many 0 hold nothing", "room 010 many 2 hold nothing", "room -10 many 2 hold nothing",
            "room 10 many +2 hold nothing", "room 10 many 2 hold 6 many -1", "room 10 many 2 hold 6", "room 10 many 2 hold 6 many",
            "room 10 many 2 hold 6 many 1 hold nothing", "size 10 many 2 hold nothing", "Room 10 many 2 hold nothing",
            "room 10 many 2 hold 6 many 1, 1 many 4,", "room 10 many 2 hold , 6 many 1", "room 10 many 2\nhold nothing",
            "room " + "1" * 201 + " many 1 hold nothing", "room 1 many " + "1" * 201 + " hold nothing",
            "room 10 many 2 hold 1 many " + "1" * 201, "room 10 many 2 hold " + "1" * 201 + " many 1",
        ]
        for line in wrong + [value for value in all_values() if not isinstance(value, str)]:
            self.assertEqual(raised(Packing.from_lines, line), (ParseError, 0), line)
            self.assertEqual(raised(Packing.from_lines, "room 1 many 1 hold nothing", line, None), (ParseError, 1), line)

    def test_numbers_of_200_digits(self):
        great = "9" * 200
        packing = Packing.from_lines(f"room {great} many {great} hold {great} many 1")
        self.assertEqual(packing.runs, ((LONGEST, LONGEST, ((LONGEST, 1),)),))
        self.assertEqual(Packing.from_lines(f"room {great} many 1 hold 1 many {great}").load, LONGEST)

    def test_a_load_greater_than_the_room(self):
        line = "room 10 many 2 hold 6 many 1, 1 many 5"
        self.assertEqual(raised(Packing.from_lines, line), (InvalidPacking, None))
        self.assertEqual(raised(Packing.from_lines, line, "no"), (ParseError, 1))
        self.assertEqual(raised(Packing.from_lines, "no", line), (ParseError, 0))

    def test_too_many_come_last(self):
        lines = [f"room {1 + at % 2} many 1 hold nothing" for at in range(41)]
        self.assertEqual(Packing.from_lines(*lines[1:]).number, 40)
        self.assertEqual(raised(Packing.from_lines, *lines), (InvalidPacking, None))
        self.assertEqual(raised(Packing.from_lines, *lines, "room"), (ParseError, 41))
        self.assertEqual(SHOWN.from_lines(*lines[:2]).number, 2)


class TestWrongInputs(unittest.TestCase):
    def test_runs(self):
        for value in [each for each in all_values() if not isinstance(each, Packing)] + not_packings():
            self.assertEqual(raised(Packing, value), (InvalidPacking, None), value)
            self.assertEqual(raised(Packing, (1, 1, ()), value), (InvalidPacking, None), value)
        for value in not_size_values():
            self.assertEqual(raised(Packing, (value, 1, ())), (InvalidPacking, None), value)
            self.assertEqual(raised(Packing, (1, value, ())), (InvalidPacking, None), value)
            self.assertEqual(raised(Packing, (1, 1, ()), (value, value, ())), (InvalidPacking, None), value)
        for value in ((1, 1), (1, 1, (), ()), [1, 1, ()], (1, 1, []), SHOWN, SHOWN.runs, (1, 1, {}), (1, 1, 0)):
            self.assertEqual(raised(Packing, value), (InvalidPacking, None), value)

    def test_indices(self):
        for value in not_counts():
            for call in (
                SHOWN.room_at, SHOWN.left_at, lambda index: SHOWN.spot_of(6, index), lambda source: SHOWN.moved(source, 4, 1),
                lambda target: SHOWN.moved(2, target, 1),
            ):
                kind, kept = raised(call, value)
                self.assertIs(kind, InvalidNumber)
                self.assertIs(kept, value)

    def test_sizes(self):
        for value in not_integers() + [0, -1, 3, 7, LONGEST]:
            for call in (lambda size: SHOWN.spot_of(size, 0), lambda size: SHOWN.moved(2, 4, size)):
                kind, kept = raised(call, value)
                self.assertIs(kind, NoRoom)
                self.assertIs(kept, value)

    def test_numbers_of_things(self):
        for value in not_size_values() + [2, LONGEST]:
            kind, kept = raised(lambda: SHOWN.moved(2, 4, 1, many=value))
            self.assertIs(kind, InvalidNumber)
            self.assertIs(kept, value)

    def test_the_first_error_comes_first(self):
        self.assertEqual(raised(lambda: SHOWN.moved(5, 6, 7, many=0)), (InvalidNumber, 5))
        self.assertEqual(raised(lambda: SHOWN.moved(0, True, 7, many=0)), (InvalidNumber, True))
        self.assertEqual(raised(lambda: SHOWN.moved(0, 5, 7, many=0)), (InvalidNumber, 5))
        self.assertEqual(raised(lambda: SHOWN.moved(0, 5, 1, many=0)), (InvalidNumber, 5))
        self.assertEqual(raised(lambda: SHOWN.moved(0, 0, 7, many=0)), (NoRoom, 7))
        self.assertEqual(raised(lambda: SHOWN.moved(0, 0, 1, many=5)), (InvalidNumber, 5))
        self.assertEqual(raised(lambda: SHOWN.moved(0, 0, 1, many=TOO_LONG)), (InvalidNumber, TOO_LONG))
        self.assertEqual(raised(lambda: SHOWN.moved(0, 0, 1, many=4)), (InvalidOperation, None))
        self.assertEqual(raised(SHOWN.spot_of, None, -1), (NoRoom, None))
        self.assertEqual(raised(SHOWN.spot_of, 6, 4), (InvalidNumber, 4))

    def test_other_packings(self):
        for value in not_packings():
            self.assertEqual(raised(SHOWN.joined, value), (InvalidPacking, None), value)
            self.assertIs(SHOWN.is_alike(value), False)
            self.assertIs(is_packing_of(PARCELS, SHELVES, value), False)

    def test_lots_and_stores(self):
        for value in not_lots():
            self.assertEqual(raised(is_packing_of, value, SHELVES, SHOWN), (InvalidLot, None), value)
            self.assertEqual(raised(is_packing_of, value, None, SHOWN), (InvalidLot, None), value)
        for value in not_stores():
            self.assertEqual(raised(is_packing_of, PARCELS, value, SHOWN), (InvalidStore, None), value)


class TestNothingChanges(unittest.TestCase):
    def test_objects_stay(self):
        runs, lines = SHOWN.runs, SHOWN.lines
        for call in (
            lambda: SHOWN.moved(2, 4, 1), lambda: SHOWN.joined(SHOWN), lambda: SHOWN.backward(), lambda: SHOWN.lot + PARCELS,
            lambda: SHOWN.store + SHELVES, lambda: SHOWN.is_alike(SHOWN), lambda: SHOWN.moved(0, 0, 1), lambda: str(SHOWN),
        ):
            raised(call)
            self.assertEqual((SHOWN.runs, SHOWN.lines), (runs, lines))

    def test_properties_are_only_read(self):
        for name in ("runs", "lines", "lot", "store", "number", "load", "left"):
            with self.assertRaises(AttributeError):
                setattr(SHOWN, name, ())


if __name__ == "__main__":
    unittest.main()
