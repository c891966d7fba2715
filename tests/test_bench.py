"""Stage 15: a bench of orders, with the promises 0.1 to 0.6, 0.12 and 15.1."""

import itertools
import random
import unittest

from chainpacks.decide.fewest import fewest_rooms
from chainpacks.decide.levels import barring_sizes
from chainpacks.errors import (
    InvalidLot, InvalidNumber, InvalidOperation, InvalidSizes, InvalidStore, NoChain, NoRoom, NothingToUndo, TooMany, UnknownName,
)
from chainpacks.pack.packings import Packing, is_packing_of
from chainpacks.things.lots import Lot
from chainpacks.things.stores import Store
from chainpacks.use.bench import Bench
from walks import can_fit, lot_of_things, store_of
from wrong_values import (
    LONGEST, TOO_LONG, all_values, not_benches, not_chains, not_counts, not_lots, not_size_values, not_sizes, not_stores, raised,
)

CHAIN = (1, 2, 6)
PARCELS = Lot({1: 5, 2: 3, 6: 4})
SHELVES = Store((10, 2), (7, 3))
NOT_NAMES = ["", "Ann", "ann ", "a b", "ninelette", "ann\u00e4", "a1", "an\n", "ANN", "x" * 9]


def filled_bench():
    """A bench of two orders and a promise, with four changes."""
    bench = Bench(CHAIN, SHELVES)
    bench.put("bob", Lot({2: 1}))
    bench.put("ann", Lot({1: 5, 2: 3, 6: 2}))
    bench.add("bob", Lot({1: 1}))
    bench.promise_of(Lot({1: 1, 6: 1}))
    return bench


def state_of(bench):
    """All that can be seen of a bench but for its changes."""
    orders = {name: lot.counts for name, lot in bench.orders.items()}
    return (bench.chain, bench.store.runs, orders, list(bench.orders), bench.promise.counts, bench.whole.counts, bench.tight, str(bench), list(bench))


def error_of(call, *args, **named):
    """The class of the error that a call raises, None if it raises none."""
    told = raised(call, *args, **named)
    return told and told[0]


class Record:
    """A plain record of orders, promise and rooms: single things, and a look at all packings."""

    def __init__(self, chain, rooms):
        self.chain, self.rooms, self.orders, self.promise, self.past = chain, tuple(rooms), {}, (), []

    def all_things(self):
        return tuple(sorted(thing for things in self.orders.values() for thing in things)) + self.promise

    def change(self, rooms, orders, promise):
        things = [thing for held in orders.values() for thing in held] + list(promise)
        if not can_fit(things, rooms):
            return False
        self.past.append((self.rooms, self.orders, self.promise))
        self.rooms, self.orders, self.promise = tuple(rooms), orders, tuple(promise)
        return True

    def without(self, things, less):
        left = list(things)
        for thing in less:
            if thing not in left:
                return None
            left.remove(thing)
        return tuple(left)

    def put(self, name, things):
        return name not in self.orders and self.change(self.rooms, {**self.orders, name: tuple(things)}, self.promise)

    def add(self, name, things):
        return name in self.orders and self.change(self.rooms, {**self.orders, name: self.orders[name] + tuple(things)}, self.promise)

    def take(self, name, things):
        left = self.without(self.orders[name], things) if name in self.orders else None
        return left is not None and self.change(self.rooms, {**self.orders, name: left}, self.promise)

    def cancel(self, name):
        return name in self.orders and self.change(self.rooms, {each: held for each, held in self.orders.items() if each != name}, self.promise)

    def put_most(self, name, things):
        if name in self.orders:
            return None
        best = max((part for part in parts_of(things) if can_fit(self.all_things() + part, self.rooms)), key=lambda part: (sum(part), sorted(part, reverse=True)))
        self.change(self.rooms, {**self.orders, name: best}, self.promise)
        return self.without(things, best)

    def promise_of(self, things):
        return self.change(self.rooms, self.orders, tuple(things))

    def move_to(self, rooms):
        return self.change(rooms, self.orders, self.promise)

    def deliver(self, name, things):
        if name not in self.orders:
            return False
        promise = list(self.promise)
        for thing in things:
            if thing in promise:
                promise.remove(thing)
        return self.change(self.rooms, {**self.orders, name: self.orders[name] + tuple(things)}, promise)

    def undo(self, many):
        if many > len(self.past):
            return False
        if many:
            self.rooms, self.orders, self.promise = self.past[-many]
            del self.past[-many:]
        return True


def parts_of(things):
    """All parts of some things."""
    counts = [(size, list(things).count(size)) for size in sorted(set(things))]
    for taken in itertools.product(*[range(count + 1) for _, count in counts]):
        yield tuple(size for (size, _), many in zip(counts, taken) for _ in range(many))


class TestExamples(unittest.TestCase):
    def test_all_examples(self):
        bench = Bench((1, 2, 6), SHELVES)
        told = [bench.put("ann", PARCELS), bench.room_for(6), bench.room_for(2), bench.room_for(1), bench.tight, str(bench)]
        self.assertEqual(told, [None, 1, 3, 6, (), "bench of 1 orders, 12 things"])
        told = [bench.put_most("bob", Lot({2: 2, 6: 1})).counts, bench["bob"].counts, bench.tight, bench.undo(), list(bench)]
        self.assertEqual(told, [{2: 2}, {6: 1}, (1, 2, 6), None, ["ann"]])
        told = [
            bench.promise_of(Lot({6: 1})), bench.room_for(1), bench.deliver("ann", Lot({6: 1})), bench.promise.number,
            is_packing_of(bench.whole, SHELVES, bench.plan()),
        ]
        self.assertEqual(told, [None, 0, None, 0, True])
        self.assertEqual(raised(bench.put, "bob", Lot({1: 1})), (NoRoom, 1))


class TestHistories(unittest.TestCase):
    """Histories of a bench against a plain record, step by step."""

    NAMES = ("a", "bob", "abcdefgh")

    def step(self, source, bench, record):
        kind = source.choice(["put", "put", "add", "add", "take", "cancel", "put_most", "promise_of", "move_to", "deliver", "undo"])
        name = source.choice(self.NAMES)
        things = tuple(sorted(source.choices(record.chain, k=source.randrange(4))))
        if kind == "undo":
            many = source.randrange(4)
            return error_of(bench.undo, many=many) is None, record.undo(many)
        if kind == "move_to":
            rooms = tuple(source.choices((1, 3, 4, 6, 7), k=source.randrange(2, 5)))
            return error_of(bench.move_to, store_of(rooms)) is None, record.move_to(rooms)
        if kind == "cancel":
            return error_of(bench.cancel, name) is None, record.cancel(name)
        if kind == "promise_of":
            return error_of(bench.promise_of, lot_of_things(things)) is None, record.promise_of(things)
        if kind == "put_most":
            if name in record.orders:
                return error_of(bench.put_most, name, lot_of_things(things)), InvalidOperation
            return bench.put_most(name, lot_of_things(things)), lot_of_things(record.put_most(name, things))
        return error_of(getattr(bench, kind), name, lot_of_things(things)) is None, getattr(record, kind)(name, things)

    def check(self, bench, record):
        self.assertEqual(bench.orders, {name: lot_of_things(record.orders[name]) for name in sorted(record.orders)})
        self.assertEqual(list(bench.orders), sorted(record.orders))
        self.assertEqual((list(bench), len(bench)), (sorted(record.orders), len(record.orders)))
        whole = [thing for held in record.orders.values() for thing in held]
        self.assertEqual((bench.whole, bench.promise), (lot_of_things(whole), lot_of_things(record.promise)))
        self.assertEqual((bench.store, bench.chain), (store_of(record.rooms), record.chain))
        self.assertEqual(str(bench), f"bench of {len(record.orders)} orders, {len(whole)} things")
        self.assertIs(is_packing_of(bench.whole, bench.store, bench.plan()), True)
        held = record.all_things()
        more = {}
        for size in record.chain:
            more[size] = next(many for many in itertools.count() if not can_fit(held + (size,) * (many + 1), record.rooms))
            self.assertEqual(bench.room_for(size), more[size])
        self.assertEqual(bench.tight, tuple(size for size in record.chain if more[size] == 0))

    def history(self, seed, chain, steps):
        source = random.Random(seed)
        bench, record = Bench(chain, store_of((7, 6, 3))), Record(chain, (7, 6, 3))
        for _ in range(steps):
            before = state_of(bench)
            done, good = self.step(source, bench, record)
            self.assertEqual(done, good)
            if done is False:
                self.assertEqual(state_of(bench), before)
            self.check(bench, record)

    def test_histories(self):
        for seed in range(12):
            for chain in ((1, 2, 6), (1, 3), (2, 4), (3,)):
                self.history(seed, chain, 40)

    def test_all_changes_taken_back(self):
        for seed in range(6):
            source = random.Random(100 + seed)
            bench, record, seen = Bench(CHAIN, store_of((7, 6, 3))), Record(CHAIN, (7, 6, 3)), []
            while len(record.past) < 12:
                seen = seen[:len(record.past)] + [state_of(bench)]
                self.step(source, bench, record)
            for many in range(len(record.past) + 1):
                twin = bench.twin()
                self.assertIsNone(twin.undo(many=many))
                self.assertEqual(state_of(twin), (seen + [state_of(bench)])[len(record.past) - many])
            self.assertEqual(raised(bench.undo, many=len(record.past) + 1), (NothingToUndo, len(record.past) + 1))
            self.assertEqual(bench.undo(many=len(record.past)), None)
            self.assertEqual((state_of(bench), bench), (seen[0], Bench(CHAIN, store_of((7, 6, 3)))))


class TestOrders(unittest.TestCase):
    def test_a_new_bench(self):
        bench = Bench(CHAIN, SHELVES)
        self.assertEqual((bench.chain, bench.store, bench.orders, bench.whole, bench.promise), (CHAIN, SHELVES, {}, Lot(), Lot()))
        self.assertEqual((bench.tight, len(bench), list(bench), str(bench)), ((), 0, [], "bench of 0 orders, 0 things"))
        self.assertEqual(bench.plan(), Packing((10, 2, ()), (7, 3, ())))
        self.assertEqual([bench.room_for(size) for size in CHAIN], [41, 19, 5])
        self.assertEqual((bench.least_store(1), bench.least_store(LONGEST), bench.undo(many=0)), (0, 0, None))
        self.assertEqual(raised(bench.undo), (NothingToUndo, 1))
        self.assertEqual(Bench((6,), Store()).tight, (6,))

    def test_names(self):
        bench = Bench(CHAIN, SHELVES)
        for name in ("a", "abcdefgh", "z", "zzzzzzzz", "nothing", "none", "ok"):
            self.assertIsNone(bench.put(name, Lot({1: 1})))
        self.assertEqual(list(bench), ["a", "abcdefgh", "none", "nothing", "ok", "z", "zzzzzzzz"])
        self.assertIs("abcdefgh" in bench, True)
        for value in all_values() + NOT_NAMES:
            if value != "box":
                self.assertIs(value in bench, False)
                self.assertEqual(raised(bench.put, value, Lot()), (InvalidOperation, None))
        self.assertIs("box" in bench, False)

    def test_an_order_that_becomes_empty_stays(self):
        bench = Bench(CHAIN, SHELVES)
        bench.put("ann", Lot({1: 2}))
        bench.take("ann", Lot({1: 2}))
        self.assertEqual((bench.orders, "ann" in bench, bench["ann"]), ({"ann": Lot()}, True, Lot()))
        bench.put("bob", Lot())
        bench.add("ann", Lot({6: 1}))
        bench.cancel("ann")
        self.assertEqual((bench.orders, str(bench)), ({"bob": Lot()}, "bench of 1 orders, 0 things"))
        self.assertEqual(raised(bench.cancel, "ann"), (UnknownName, "ann"))

    def test_a_hundred_orders_and_one_more(self):
        bench = Bench((1,), Store((1, 100)))
        names = [first + second for first in "abcdefghij" for second in "abcdefghij"]
        for name in names:
            bench.put(name, Lot({1: 1}))
        self.assertEqual((len(bench), list(bench), bench.tight), (100, sorted(names), (1,)))
        # There are too many orders, although there is no room either.
        for lot in (Lot(), Lot({1: 1})):
            self.assertEqual(raised(bench.put, "x", lot), (TooMany, 100))
            self.assertEqual(raised(bench.put_most, "x", lot), (TooMany, 100))
        self.assertEqual(raised(bench.put, "x", Lot({2: 1})), (InvalidLot, None))
        self.assertEqual(raised(bench.put, "aa", Lot()), (InvalidOperation, None))
        self.assertEqual(raised(bench.add, "aa", Lot({1: 1})), (NoRoom, 1))
        bench.cancel("aa")
        self.assertIsNone(bench.put("x", Lot({1: 1})))
        self.assertEqual(len(bench), 100)

    def test_put_most(self):
        for things in ((), (1,), (6, 6, 6), (1, 1, 2, 2, 6, 6), (2,) * 9, (1,) * 20, (2, 6), (1, 2, 2, 2, 6)):
            for held in ((), (1, 1), (6,), (2, 2, 2, 1), (6, 6, 1), (6, 6, 2, 2)):
                for rooms in ((7, 6, 3), (8, 8), (6, 6, 6)):
                    bench = Bench(CHAIN, store_of(rooms))
                    if can_fit(held, rooms):
                        bench.put("a", lot_of_things(held[1:]))
                        bench.promise_of(lot_of_things(held[:1]))
                        left = bench.put_most("b", lot_of_things(things))
                        self.assertEqual(bench["b"] + left, lot_of_things(things))
                        fitting = [part for part in parts_of(things) if can_fit(held + part, rooms)]
                        self.assertEqual(bench["b"].total, max(sum(part) for part in fitting))
                        best = max(fitting, key=lambda part: [part.count(size) for size in (6, 2, 1)])
                        self.assertEqual(bench["b"], lot_of_things(best))

    def test_the_promise_is_taken_in_part(self):
        bench = Bench(CHAIN, SHELVES)
        bench.put("ann", Lot({1: 3}))
        bench.promise_of(Lot({1: 2, 6: 2}))
        bench.deliver("ann", Lot({1: 5, 6: 1}))
        self.assertEqual((bench.promise, bench["ann"]), (Lot({6: 1}), Lot({1: 8, 6: 1})))
        bench.deliver("ann", Lot({2: 1}))
        self.assertEqual((bench.promise, bench["ann"]), (Lot({6: 1}), Lot({1: 8, 2: 1, 6: 1})))
        bench.deliver("ann", Lot())
        self.assertEqual((bench.promise, bench.whole.number), (Lot({6: 1}), 10))
        bench.undo(many=3)
        self.assertEqual((bench.promise, bench["ann"]), (Lot({1: 2, 6: 2}), Lot({1: 3})))
        bench.promise_of(Lot())
        self.assertEqual(bench.promise, Lot())

    def test_no_room(self):
        bench = filled_bench()
        before = state_of(bench)
        for call, kept in (
            (lambda: bench.put("cid", Lot({6: 3})), 6), (lambda: bench.put("cid", Lot({1: 13})), 1), (lambda: bench.add("ann", Lot({2: 8})), 2),
            (lambda: bench.promise_of(Lot({6: 4})), 6), (lambda: bench.promise_of(Lot({1: 30})), 1), (lambda: bench.move_to(Store((6, 2))), 6),
            (lambda: bench.move_to(Store((7, 3), (1, 3))), 2), (lambda: bench.move_to(Store()), 6), (lambda: bench.deliver("bob", Lot({6: 4})), 6),
            (lambda: bench.move_to(Store((26, 1), (1, 3))), 1),
        ):
            self.assertEqual(raised(call), (NoRoom, kept))
            self.assertEqual(state_of(bench), before)
        # What is delivered out of the promise needs no more room.
        tight = Bench(CHAIN, Store((6, 2)))
        tight.put("a", Lot({6: 1}))
        tight.promise_of(Lot({6: 1}))
        self.assertEqual(raised(tight.add, "a", Lot({6: 1})), (NoRoom, 6))
        self.assertEqual((tight.deliver("a", Lot({6: 1})), tight.promise, tight.tight), (None, Lot(), CHAIN))

    def test_the_greatest_size_that_bars(self):
        for things in parts_of((1, 1, 1, 2, 2, 6, 6, 6)):
            for rooms in ((7, 3), (6, 2, 2), (1, 1, 6), (5, 5), ()):
                lot, store = lot_of_things(things), store_of(rooms)
                barring = barring_sizes(lot, store)
                told = raised(Bench(CHAIN, store).put, "a", lot)
                self.assertEqual(told, (NoRoom, barring[-1]) if barring else None)
                self.assertEqual(raised(Bench(CHAIN, store).promise_of, lot), told)

    def test_least_store(self):
        bench = filled_bench()
        together = bench.whole + bench.promise
        for room in range(1, 30):
            told = raised(bench.least_store, room)
            self.assertEqual(told, raised(fewest_rooms, together, room))
            if told is None:
                self.assertEqual(bench.least_store(room), fewest_rooms(together, room))
        self.assertEqual(raised(bench.least_store, 5), (NoRoom, 6))

    def test_items(self):
        bench = filled_bench()
        self.assertEqual((bench["ann"], bench["bob"]), (Lot({1: 5, 2: 3, 6: 2}), Lot({1: 1, 2: 1})))
        for value in all_values() + NOT_NAMES + ["cid", "Ann", ("ann",), ["ann"]]:
            kind, kept = raised(lambda: bench[value])
            self.assertIs(kind, UnknownName)
            self.assertIs(kept, value)
        self.assertEqual([name for name in bench], ["ann", "bob"])

    def test_equal_benches(self):
        bench = filled_bench()
        self.assertEqual(bench, filled_bench())
        other = Bench(CHAIN, SHELVES)
        other.promise_of(Lot({1: 1, 6: 1}))
        other.put("ann", Lot({1: 5, 2: 3, 6: 2}))
        other.put("bob", Lot({1: 1, 2: 1}))
        # The changes that can be taken back do not matter.
        self.assertIs(bench == other, True)
        self.assertIs(bench != other, False)
        for change in (
            lambda: other.put("cid", Lot()), lambda: other.cancel("bob"), lambda: other.take("bob", Lot({1: 1})), lambda: other.promise_of(Lot({6: 1})),
            lambda: other.move_to(SHELVES + Store((1, 1))), lambda: other.move_to(SHELVES.backward()),
        ):
            change()
            self.assertIs(bench == other, False)
            other.undo()
            self.assertIs(bench == other, True)
        self.assertIs(Bench((1, 2), SHELVES) == Bench((1, 2, 6), SHELVES), False)
        for value in not_benches():
            self.assertIs(bench == value, False)
            self.assertIs(bench != value, True)


class TestUndo(unittest.TestCase):
    def test_each_change_is_one(self):
        bench = Bench(CHAIN, SHELVES)
        states = [state_of(bench)]
        for change in (
            lambda: bench.put("ann", Lot()), lambda: bench.add("ann", Lot()), lambda: bench.take("ann", Lot()), lambda: bench.put_most("bob", Lot()),
            lambda: bench.promise_of(Lot()), lambda: bench.move_to(SHELVES), lambda: bench.deliver("ann", Lot()), lambda: bench.cancel("bob"),
            lambda: bench.put_most("cid", Lot({6: 9})), lambda: bench.move_to(Store((30, 2))),
        ):
            change()
            states.append(state_of(bench))
        for many in range(11):
            twin = bench.twin()
            twin.undo(many=many)
            self.assertEqual(state_of(twin), states[10 - many])
        for at in range(10, 0, -1):
            bench.undo()
            self.assertEqual(state_of(bench), states[at - 1])
        self.assertEqual(raised(bench.undo), (NothingToUndo, 1))

    def test_calls_that_raise_are_no_changes(self):
        bench = filled_bench()
        for call in (
            lambda: bench.put("ann", Lot()), lambda: bench.put("cid", Lot({6: 9})), lambda: bench.take("ann", Lot({6: 9})), lambda: bench.cancel("cid"),
            lambda: bench.move_to(Store()), lambda: bench.promise_of(Lot({3: 1})), lambda: bench.undo(many=5), lambda: bench.undo(many=-1),
        ):
            self.assertIsNotNone(raised(call))
        bench.undo(many=4)
        self.assertEqual(bench, Bench(CHAIN, SHELVES))
        self.assertEqual(raised(bench.undo), (NothingToUndo, 1))

    def test_wrong_numbers(self):
        bench = filled_bench()
        for value in not_counts():
            kind, kept = raised(bench.undo, many=value)
            self.assertIs(kind, InvalidNumber)
            self.assertIs(kept, value)
        for many in (5, 10 ** 19, LONGEST):
            self.assertEqual(raised(bench.undo, many=many), (NothingToUndo, many))
        self.assertEqual(bench, filled_bench())

    def test_a_new_change_behind_an_undo(self):
        bench = filled_bench()
        bench.undo(many=2)
        bench.put("cid", Lot({1: 1}))
        bench.undo(many=3)
        self.assertEqual(bench, Bench(CHAIN, SHELVES))


class TestTrials(unittest.TestCase):
    def test_a_twin_is_independent(self):
        bench = filled_bench()
        twin = bench.twin()
        self.assertEqual((twin, twin is bench), (bench, False))
        twin.put("cid", Lot({1: 1}))
        twin.move_to(Store((50, 3)))
        self.assertEqual(bench, filled_bench())
        twin.undo(many=6)
        self.assertEqual((twin, bench), (Bench(CHAIN, SHELVES), filled_bench()))
        other = bench.twin()
        bench.undo(many=4)
        self.assertEqual((other, bench), (filled_bench(), Bench(CHAIN, SHELVES)))
        self.assertIsNone(other.undo(many=4))

    def test_a_trial(self):
        bench = filled_bench()
        with bench.trial() as same:
            self.assertIs(same, bench)
            same.put("cid", Lot({1: 1}))
            bench.cancel("ann")
            bench.promise_of(Lot({2: 3}))
            self.assertEqual(list(bench), ["bob", "cid"])
        self.assertEqual(bench, filled_bench())
        bench.undo(many=4)
        self.assertEqual(raised(bench.undo), (NothingToUndo, 1))

    def test_an_error_goes_on(self):
        for error in (KeyError("x"), ValueError("y"), NoRoom(6), KeyboardInterrupt()):
            bench = filled_bench()
            with self.assertRaises(error.__class__) as seen:
                with bench.trial():
                    bench.put("cid", Lot({1: 1}))
                    bench.undo(many=3)
                    raise error
            self.assertIs(seen.exception, error)
            self.assertEqual(bench, filled_bench())
            self.assertIsNone(bench.undo(many=4))

    def test_an_undo_in_a_trial(self):
        bench = filled_bench()
        with bench.trial():
            bench.undo(many=4)
            self.assertEqual(bench, Bench(CHAIN, SHELVES))
            self.assertEqual(raised(bench.undo), (NothingToUndo, 1))
            bench.put("dan", Lot({6: 5}))
        self.assertEqual(bench, filled_bench())
        self.assertIsNone(bench.undo(many=4))

    def test_a_trial_in_a_trial(self):
        bench = filled_bench()
        with bench.trial():
            bench.put("cid", Lot({1: 1}))
            middle = bench.twin()
            with bench.trial():
                bench.undo(many=2)
                with bench.trial():
                    bench.move_to(Store((99, 1)))
                bench.cancel("bob")
            self.assertEqual(bench, middle)
            bench.undo(many=5)
        self.assertEqual(bench, filled_bench())
        self.assertIsNone(bench.undo(many=4))

    def test_the_beginning_of_the_block_counts(self):
        bench = Bench(CHAIN, SHELVES)
        trial = bench.trial()
        bench.put("ann", Lot({1: 1}))
        with trial:
            bench.cancel("ann")
        self.assertEqual(bench.orders, {"ann": Lot({1: 1})})
        with trial:
            bench.put("bob", Lot())
        self.assertEqual((list(bench), bench.undo()), (["ann"], None))

    def test_during(self):
        bench = filled_bench()

        def call(same):
            self.assertIs(same, bench)
            same.put("cid", Lot({1: 2}))
            return same.whole.number

        self.assertEqual(bench.during(call), 14)
        self.assertEqual(bench, filled_bench())
        self.assertEqual(bench.during(lambda same: same.during(lambda inner: inner.undo(many=4)) or list(same)), ["ann", "bob"])
        self.assertEqual(raised(bench.during, lambda same: same.cancel("cid")), (UnknownName, "cid"))
        self.assertEqual(raised(bench.during, lambda same: [same.cancel("ann"), same.put("bob", Lot())]), (InvalidOperation, None))
        self.assertEqual(bench, filled_bench())
        self.assertIsNone(bench.undo(many=4))


class TestGreat(unittest.TestCase):
    def test_great_numbers(self):
        for figures in (20, 100, 199):
            great = 10 ** (figures - 1)
            bench = Bench((1, great, 2 * great), Store((3 * great + 1, great), (great - 1, great)))
            bench.put("ann", Lot({great: great, 2 * great: great - 5}))
            # In each of the first rooms a thing of the greatest size leaves space for one of the great size.
            self.assertEqual([bench.room_for(size) for size in bench.chain], [great + great * (great - 1) + 10 * great, 10, 5])
            left = bench.put_most("bob", Lot({1: great, great: great, 2 * great: 7}))
            self.assertEqual((left.counts, bench["bob"].counts), ({great: great, 2 * great: 2}, {1: great, 2 * great: 5}))
            self.assertEqual(bench.tight, (great, 2 * great))
            self.assertEqual(raised(bench.add, "bob", Lot({great: 1})), (NoRoom, great))
            self.assertIs(is_packing_of(bench.whole, bench.store, bench.plan()), True)
            self.assertEqual(bench.least_store(2 * great), fewest_rooms(bench.whole, 2 * great))
            self.assertEqual(str(bench), f"bench of 2 orders, {3 * great} things")
            bench.move_to(Store((LONGEST, LONGEST)))
            bench.promise_of(Lot({2 * great: great}))
            bench.deliver("bob", Lot({2 * great: 3}))
            self.assertEqual((bench.promise[2 * great], bench["bob"][2 * great]), (great - 3, 8))
            bench.undo(many=5)
            self.assertEqual(bench.orders, {})

    def test_orders_that_are_too_many_for_a_lot(self):
        bench = Bench((1, 2), Store((2, LONGEST)))
        bench.put("ann", Lot({1: LONGEST}))
        bench.put("bob", Lot({1: LONGEST - 2}))
        self.assertEqual((bench.room_for(1), bench.room_for(2), bench.tight), (2, 1, ()))
        self.assertEqual(raised(bench.put, "cid", Lot({2: 2})), (NoRoom, 1))
        self.assertEqual(bench.put_most("cid", Lot({1: 1, 2: 2})).counts, {1: 1, 2: 1})
        self.assertEqual((bench.least_store(2), bench.plan().load), (LONGEST, 2 * LONGEST))
        self.assertEqual(str(bench), f"bench of 3 orders, {2 * LONGEST - 1} things")

    def test_twelve_sizes_and_forty_runs(self):
        chain = tuple(3 ** k for k in range(12))
        store = Store(*[(3 ** 11 + 7 * at, 10 ** 20 + at) for at in range(40)])
        bench = Bench(chain, store)
        for at, name in enumerate(("a", "b", "c", "d")):
            bench.put(name, Lot({size: 10 ** 19 + at + size for size in chain}))
        self.assertIs(is_packing_of(bench.whole, store, bench.plan()), True)
        for size in chain:
            number = bench.room_for(size)
            self.assertIsNone(bench.during(lambda same: same.put("x", Lot({size: number}))))
            self.assertIs(raised(bench.put, "x", Lot({size: number + 1}))[0], NoRoom)


class TestWrongInputs(unittest.TestCase):
    def test_benches(self):
        for value in not_sizes():
            self.assertEqual(raised(Bench, value, None), (InvalidSizes, None))
        for value in not_stores():
            for chain in (CHAIN, (2, 3)):
                self.assertEqual(raised(Bench, chain, value), (InvalidStore, None))
        for sizes, gap in not_chains():
            self.assertEqual(raised(Bench, sizes, SHELVES), (NoChain, gap))

    def test_names(self):
        bench = filled_bench()
        for value in all_values() + NOT_NAMES + ["cid"]:
            for call in (bench.add, bench.take, bench.deliver):
                kind, kept = raised(call, value, None)
                self.assertIs(kind, UnknownName)
                self.assertIs(kept, value)
            self.assertIs(raised(bench.cancel, value)[1], value)
            if value not in ("box", "cid"):
                for call in (bench.put, bench.put_most):
                    self.assertEqual(raised(call, value, None), (InvalidOperation, None))
        for call in (bench.put, bench.put_most):
            self.assertEqual(raised(call, "ann", None), (InvalidOperation, None))
        self.assertEqual(bench, filled_bench())

    def test_lots(self):
        bench = filled_bench()
        for value in not_lots() + [Lot({3: 1}), Lot({1: 1, 2: 1, 6: 1, 12: 1}), Lot({4: 1}), Lot({12: 9}), Lot({3: 99, 6: 99})]:
            for call, name in ((bench.put, "cid"), (bench.put_most, "cid"), (bench.add, "ann"), (bench.take, "ann"), (bench.deliver, "ann")):
                self.assertEqual(raised(call, name, value), (InvalidLot, None))
            self.assertEqual(raised(bench.promise_of, value), (InvalidLot, None))
        self.assertEqual(bench, filled_bench())

    def test_things_that_an_order_has_not(self):
        bench = filled_bench()
        for lot in (Lot({6: 3}), Lot({1: 6}), Lot({1: 5, 2: 4}), Lot({6: LONGEST})):
            self.assertEqual(raised(bench.take, "ann", lot), (InvalidOperation, None))
        self.assertEqual(raised(bench.take, "bob", Lot({6: 1})), (InvalidOperation, None))
        self.assertEqual(bench, filled_bench())

    def test_stores_and_sizes(self):
        bench = filled_bench()
        for value in not_stores():
            self.assertEqual(raised(bench.move_to, value), (InvalidStore, None))
        for value in not_size_values() + [3, 4, 12, TOO_LONG, LONGEST]:
            kind, kept = raised(bench.room_for, value)
            self.assertIs(kind, InvalidNumber)
            self.assertIs(kept, value)
        for value in not_size_values():
            kind, kept = raised(bench.least_store, value)
            self.assertIs(kind, InvalidNumber)
            self.assertIs(kept, value)
        self.assertEqual(bench, filled_bench())

    def test_nothing_is_shared(self):
        counts = {1: 2}
        lot = Lot(counts)
        bench = Bench(CHAIN, SHELVES)
        bench.put("ann", lot)
        counts[1] = 9
        orders = bench.orders
        orders["bob"] = Lot()
        orders["ann"] = Lot({6: 1})
        bench["ann"].counts[2] = 5
        self.assertEqual((bench.orders, lot), ({"ann": Lot({1: 2})}, Lot({1: 2})))
        names = list(bench)
        bench.put("bob", Lot())
        self.assertEqual(names, ["ann"])

    def test_a_loop_over_names_that_changes_orders(self):
        bench = filled_bench()
        for name in bench:
            bench.cancel(name)
        self.assertEqual(len(bench), 0)


if __name__ == "__main__":
    unittest.main()
