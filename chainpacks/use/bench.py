"""A bench: orders under names, which together with a promise fit in a store."""

from chainpacks.base.chains import check_sizes
from chainpacks.base.checks import check_count, check_size
from chainpacks.base.runs import units_of
from chainpacks.base.words import is_name, is_size
from chainpacks.decide.fewest import fewest_for
from chainpacks.decide.levels import check_together
from chainpacks.errors import InvalidLot, InvalidNumber, InvalidOperation, NoRoom, NothingToUndo, TooMany, UnknownName
from chainpacks.pack.packings import Packing
from chainpacks.pack.rules import put_all
from chainpacks.things.lots import Lot, check_lot
from chainpacks.things.stores import check_store
from chainpacks.use.trials import Trial

MAX_ORDERS = 100


def counts_of(lots):
    """The dict of the counts of all things in some lots, which can be too long for a lot."""
    counts = {}
    for lot in lots:
        for size, count in lot.counts.items():
            counts[size] = counts.get(size, 0) + count
    return counts


def free_units(chain, store, counts):
    """The dict from the sizes of a chain to the units of a store that things leave, below 0 if there are too few."""
    things = list(counts.items())
    return {size: units_of(store.runs, size) - units_of(things, size) for size in chain}


def more_of(chain, store, counts, size):
    """How many more things of a size fit beside things that fit."""
    free = free_units(chain, store, counts)
    return min([units // (size // each) for each, units in free.items() if each <= size])


def greatest_bar(chain, store, lots):
    """The greatest size that bars some lots together, None if they fit."""
    free = free_units(chain, store, counts_of(lots))
    return max([size for size, units in free.items() if units < 0], default=None)


class Bench:
    """Orders of things of a chain and a promise, in a store."""

    def __init__(self, chain, store):
        check_sizes(chain)
        check_store(store)
        check_together(chain)
        self._chain = chain
        self._store = store
        self._orders = {}
        self._promise = Lot()
        self._past = []

    @property
    def chain(self):
        """The chain of the sizes."""
        return self._chain

    @property
    def store(self):
        """The store."""
        return self._store

    @property
    def orders(self):
        """The dict from the names to the lots of the orders, by ascending names."""
        return dict(self._orders)

    @property
    def whole(self):
        """The lot of all orders together."""
        return Lot(counts_of(list(self._orders.values())))

    @property
    def promise(self):
        """The lot for which there is room besides."""
        return self._promise

    @property
    def tight(self):
        """The sizes of which no more thing fits, ascending."""
        counts = counts_of(self._lots())
        return tuple([size for size in self._chain if more_of(self._chain, self._store, counts, size) == 0])

    def _lots(self):
        """The lots of all orders, and the promise."""
        return list(self._orders.values()) + [self._promise]

    def _number(self):
        """How many things the orders have."""
        return sum([lot.number for lot in list(self._orders.values())])

    def _check_order(self, name):
        """Raise UnknownName unless this is the name of an order."""
        if name not in self:
            raise UnknownName(name)

    def _check_things(self, lot):
        """Raise InvalidLot unless this is a lot of sizes of the chain."""
        check_lot(lot)
        if any([size not in self._chain for size in lot.sizes]):
            raise InvalidLot("a size of the lot is not one of the chain")

    def _check_new(self, name, lot):
        """Raise the error of a new order."""
        if not is_name(name) or name in self._orders:
            raise InvalidOperation("no name, or the name of an order")
        self._check_things(lot)
        if len(self._orders) >= MAX_ORDERS:
            raise TooMany(MAX_ORDERS)

    def _change(self, store, orders, promise):
        """Keep what is to be taken back, and set everything; NoRoom if the orders and the promise do not fit."""
        size = greatest_bar(self._chain, store, list(orders.values()) + [promise])
        if size is not None:
            raise NoRoom(size)
        self._past.append((self._store, self._orders, self._promise))
        self._store = store
        # Dicts of orders are never changed, as benches share them.
        self._orders = {name: orders[name] for name in sorted(orders)}
        self._promise = promise

    def put(self, name, lot):
        """Take a new order."""
        self._check_new(name, lot)
        self._change(self._store, {**self._orders, name: lot}, self._promise)

    def add(self, name, lot):
        """Put more things to an order."""
        self._check_order(name)
        self._check_things(lot)
        self._change(self._store, {**self._orders, name: self._orders[name] + lot}, self._promise)

    def take(self, name, lot):
        """Take things from an order."""
        self._check_order(name)
        self._check_things(lot)
        self._change(self._store, {**self._orders, name: self._orders[name] - lot}, self._promise)

    def cancel(self, name):
        """Drop an order."""
        self._check_order(name)
        left = {each: lot for each, lot in self._orders.items() if each != name}
        self._change(self._store, left, self._promise)

    def put_most(self, name, lot):
        """Take a new order with the part of a lot that has the greatest total; the lot that is left out."""
        self._check_new(name, lot)
        counts = counts_of(self._lots())
        part = Lot()
        for size in lot.sizes[::-1]:
            number = min(lot[size], more_of(self._chain, self._store, counts, size))
            counts[size] = counts.get(size, 0) + number
            part = part.with_count(size, number)
        self._change(self._store, {**self._orders, name: part}, self._promise)
        return lot - part

    def promise_of(self, lot):
        """Make a lot the promise."""
        self._check_things(lot)
        self._change(self._store, self._orders, lot)

    def move_to(self, store):
        """Take another store."""
        check_store(store)
        self._change(store, self._orders, self._promise)

    def deliver(self, name, lot):
        """Put more things to an order, and take those of them that are promised from the promise."""
        self._check_order(name)
        self._check_things(lot)
        kept = {size: self._promise[size] - lot[size] for size in self._promise.sizes}
        promise = Lot({size: count for size, count in kept.items() if count > 0})
        self._change(self._store, {**self._orders, name: self._orders[name] + lot}, promise)

    def room_for(self, size):
        """How many more things of a size of the chain fit."""
        if not is_size(size) or size not in self._chain:
            raise InvalidNumber(size)
        return more_of(self._chain, self._store, counts_of(self._lots()), size)

    def bar_with(self, lot):
        """The greatest size that bars the orders, the promise and this lot together, None if they fit."""
        self._check_things(lot)
        return greatest_bar(self._chain, self._store, self._lots() + [lot])

    def plan(self):
        """Any packing of all orders in the store."""
        # The lot of all orders is not made: its counts can be too long for that.
        runs = put_all(counts_of(list(self._orders.values())), self._store.runs, "first")[0]
        return Packing(*runs)

    def least_store(self, room):
        """How few rooms of this size the orders and the promise would need."""
        check_size(room)
        return fewest_for(counts_of(self._lots()), room)

    def undo(self, *, many=1):
        """Take back the last changes, so many of them."""
        check_count(many)
        if many > len(self._past):
            raise NothingToUndo(many)
        if many > 0:
            self._store, self._orders, self._promise = self._past[-many]
            self._past = self._past[:-many]

    def twin(self):
        """An independent copy, with the changes to take back."""
        same = Bench(self._chain, self._store)
        same._orders = self._orders
        same._promise = self._promise
        same._past = list(self._past)
        return same

    def trial(self):
        """What gives the bench to a block, and puts all back at the end of it."""
        return Trial(self)

    def during(self, call):
        """What a call with the bench returns, in a block behind which all is put back."""
        with self.trial() as same:
            answer = call(same)
        return answer

    def __contains__(self, x):
        return is_name(x) and x in self._orders

    def __getitem__(self, at):
        if not is_name(at) or at not in self._orders:
            raise UnknownName(at)
        return self._orders[at]

    def __iter__(self):
        return iter(self._orders)

    def __len__(self):
        return len(self._orders)

    def __eq__(self, other):
        return (
            isinstance(other, Bench) and self._chain == other._chain and self._store == other._store
            and self._orders == other._orders and self._promise == other._promise
        )

    def __str__(self):
        return f"bench of {len(self._orders)} orders, {self._number()} things"
