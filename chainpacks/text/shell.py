"""A shell, which does commands on a bench and answers them."""

from chainpacks.base.lines import pairs_in, text_of
from chainpacks.base.words import MAX_FIGURES, is_name
from chainpacks.errors import (
    InvalidLot, InvalidNumber, InvalidOperation, InvalidStore, NoRoom, NothingToUndo, ParseError, TooMany, UnknownName,
)
from chainpacks.text.texts import brief, brief_lot
from chainpacks.things.stores import Store
from chainpacks.use.bench import Bench

NONE = "none"
WHAT = "what"


def _put(bench, name, lot):
    """The answer to `put`."""
    bench.put(name, lot)
    return "ok"


def _add(bench, name, lot):
    """The answer to `add`."""
    bench.add(name, lot)
    return "ok"


def _take(bench, name, lot):
    """The answer to `take`."""
    bench.take(name, lot)
    return "ok"


def _deliver(bench, name, lot):
    """The answer to `deliver`."""
    bench.deliver(name, lot)
    return "ok"


def _most(bench, name, lot):
    """The answer to `most`."""
    return brief(bench.put_most(name, lot))


def _cancel(bench, name):
    """The answer to `cancel`."""
    bench.cancel(name)
    return "ok"


def _order(bench, name):
    """The answer to `order`."""
    return brief(bench[name])


def _promise(bench, lot):
    """The answer to `promise`."""
    bench.promise_of(lot)
    return "ok"


def _fits(bench, lot):
    """The answer to `fits`."""
    size = bench.bar_with(lot)
    return "yes" if size is None else f"barred {size}"


def _rooms(bench, runs):
    """The answer to `rooms`."""
    bench.move_to(Store(*runs))
    return "ok"


def _undo(bench, number):
    """The answer to `undo`."""
    bench.undo(many=number)
    return "ok"


def _room(bench, number):
    """The answer to `room`."""
    return str(bench.room_for(number))


def _need(bench, number):
    """The answer to `need`."""
    return str(bench.least_store(number))


def _orders(bench):
    """The answer to `orders`."""
    return " ".join(list(bench)) if len(bench) > 0 else NONE


def _whole(bench):
    """The answer to `whole`."""
    return brief(bench.whole)


def _promised(bench):
    """The answer to `promised`."""
    return brief(bench.promise)


def _store(bench):
    """The answer to `store`."""
    return text_of(bench.store.runs)


def _tight(bench):
    """The answer to `tight`."""
    return " ".join([str(size) for size in bench.tight]) if bench.tight else NONE


PLAIN = {"orders": _orders, "whole": _whole, "promised": _promised, "store": _store, "tight": _tight}
WITH_NAME = {"cancel": _cancel, "order": _order}
WITH_LOT = {"promise": _promise, "fits": _fits}
WITH_BOTH = {"put": _put, "add": _add, "take": _take, "deliver": _deliver, "most": _most}
WITH_NUMBER = {"undo": _undo, "room": _room, "need": _need}


def _answer(bench, command):
    """The answer to a command, None if it has no form of a command."""
    if command in PLAIN:
        action = PLAIN[command]
        return action(bench)
    word, _, rest = command.partition(" ")
    if word in WITH_NAME:
        return _answer_to_name(bench, word, rest)
    if word in WITH_LOT:
        return _answer_to_lot(bench, word, rest)
    if word in WITH_BOTH:
        return _answer_to_both(bench, word, rest)
    if word in WITH_NUMBER:
        return _answer_to_number(bench, word, rest)
    runs = pairs_in(rest) if word == "rooms" else None
    return None if runs is None else _rooms(bench, runs)


def _answer_to_name(bench, word, name):
    """The answer to a command with a name."""
    action = WITH_NAME[word]
    return action(bench, name) if is_name(name) else None


def _answer_to_lot(bench, word, text):
    """The answer to a command with a lot."""
    action = WITH_LOT[word]
    lot = brief_lot(text)
    return None if lot is None else action(bench, lot)


def _answer_to_both(bench, word, rest):
    """The answer to a command with a name and a lot."""
    action = WITH_BOTH[word]
    name, _, text = rest.partition(" ")
    lot = brief_lot(text)
    return action(bench, name, lot) if is_name(name) and lot is not None else None


def _answer_to_number(bench, word, text):
    """The answer to a command with a number, which is at least 0 for `undo`, and at least 1 for the others."""
    action = WITH_NUMBER[word]
    if text == "" or not all(["0" <= sign <= "9" for sign in text]):
        return None
    if text[0] == "0" and (text != "0" or word != "undo"):
        return None
    # Python refuses to read very long numbers, and no number of more than 200 digits is accepted.
    if len(text) > MAX_FIGURES:
        raise InvalidNumber(text)
    return action(bench, int(text))


class Shell:
    """Does commands on a twin of a bench."""

    def __init__(self, bench):
        if not isinstance(bench, Bench):
            raise InvalidOperation("no bench")
        self._bench = bench.twin()

    def __call__(self, command):
        if not isinstance(command, str):
            raise ParseError(None)
        try:
            answer = _answer(self._bench, command)
        except UnknownName:
            answer = "name"
        except InvalidLot:
            answer = "lot"
        except InvalidStore:
            answer = "store"
        except InvalidOperation:
            answer = "operation"
        except InvalidNumber:
            answer = "number"
        except TooMany:
            answer = "many"
        except NothingToUndo:
            answer = "nothing"
        except NoRoom as error:
            answer = f"barred {error.size}"
        return WHAT if answer is None else answer

    def bench(self):
        """A twin of the bench as it is now."""
        return self._bench.twin()

    def __str__(self):
        return f"shell of {self._bench}"
