"""Texts of lots, stores, packings, goods and fit papers, and brief texts of lots."""

from chainpacks.base.lines import numbers_in, pairs_in, text_of
from chainpacks.base.words import is_size
from chainpacks.errors import InvalidOperation, InvalidPaper, ParseError
from chainpacks.pack.packings import Packing
from chainpacks.things.lots import MAX_SIZES, Lot, check_lot
from chainpacks.things.stores import Store
from chainpacks.worth.goods import Goods


def _text(word, lines):
    """The text with a word in its first line, and with these lines behind it."""
    return "\n".join([word, *lines])


def write(value):
    """The text of a lot, a store, a packing or goods."""
    if not isinstance(value, (Lot, Store, Packing, Goods)):
        raise InvalidOperation("neither a lot nor a store, a packing or goods")
    if isinstance(value, Lot):
        word = "lot"
    elif isinstance(value, Store):
        word = "store"
    elif isinstance(value, Packing):
        word = "packing"
    else:
        word = "goods"
    lines = value.lines
    return _text(word, lines)


def _check_text(text):
    """Raise ParseError(None) unless this is a string."""
    if not isinstance(text, str):
        raise ParseError(None)


def read(text):
    """The lot, the store, the packing or the goods with a text."""
    _check_text(text)
    lines = text.split("\n")
    word = lines[0]
    if word not in ("lot", "store", "packing", "goods"):
        raise ParseError(0)
    return _value(word, lines[1:])


def _value(word, lines):
    """The value with a word and lines; the number of a wrong line is told as it is in a text with the word."""
    try:
        if word == "lot":
            return Lot.from_lines(*lines)
        if word == "store":
            return Store.from_lines(*lines)
        if word == "packing":
            return Packing.from_lines(*lines)
        return Goods.from_lines(*lines)
    except ParseError as error:
        raise ParseError(error.line + 1)


def write_fit(paper):
    """The text of a pair of `packed` and a packing, or of `barred` and a size."""
    if not _is_paper(paper):
        raise InvalidPaper("neither a pair of packed and a packing, nor of barred and a size")
    word, shown = paper
    if word == "barred":
        return f"barred {shown}"
    lines = shown.lines
    return _text(word, lines)


def _is_paper(value):
    """Whether the value is a pair of `packed` and any packing, or of `barred` and any size."""
    if not isinstance(value, tuple) or len(value) != 2:
        return False
    if value[0] == "packed":
        return isinstance(value[1], Packing)
    return value[0] == "barred" and is_size(value[1])


def read_fit(text):
    """The fit paper with a text."""
    _check_text(text)
    lines = text.split("\n")
    if lines[0] == "packed":
        return ("packed", _value("packing", lines[1:]))
    numbers = numbers_in(lines[0], "barred N")
    if numbers is None:
        raise ParseError(0)
    if len(lines) > 1:
        raise ParseError(1)
    return ("barred", numbers[0])


def brief(lot):
    """The brief text of a lot, the greatest size first."""
    check_lot(lot)
    return text_of(list(lot.counts.items())[::-1])


def brief_lot(text):
    """The lot with a brief text, None if the string is the brief text of no lot."""
    pairs = pairs_in(text)
    if pairs is None or len(pairs) > MAX_SIZES:
        return None
    if any([high[0] <= low[0] for high, low in zip(pairs, pairs[1:])]):
        return None
    return Lot(dict(pairs))


def lot_in(text):
    """The lot with a brief text."""
    _check_text(text)
    lot = brief_lot(text)
    if lot is None:
        raise ParseError(None)
    return lot
