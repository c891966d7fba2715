"""Numbers in lines, and pairs of numbers in texts like `6 many 4, 1 many 5`."""

from chainpacks.base.words import MAX_FIGURES

NOTHING = "nothing"


def number_in(text):
    """The number of at least 1 that the text writes out, None if it is no such text."""
    if not 1 <= len(text) <= MAX_FIGURES or text[0] == "0":
        return None
    if not all(["0" <= sign <= "9" for sign in text]):
        return None
    return int(text)


def numbers_in(line, form):
    """The tuple of the numbers in a line of a form like `size N many N`, None for every other value."""
    if not isinstance(line, str):
        return None
    parts = line.split(" ")
    words = form.split(" ")
    if len(parts) != len(words):
        return None
    numbers = [number_in(part) for part, word in zip(parts, words) if word == "N"]
    if None in numbers or any([part != word for part, word in zip(parts, words) if word != "N"]):
        return None
    return tuple(numbers)


def pairs_in(text):
    """The tuple of the pairs in a text like `6 many 4, 1 many 5`, or `nothing`; None for every other string."""
    if text == NOTHING:
        return ()
    pairs = [numbers_in(part, "N many N") for part in text.split(", ")]
    return None if None in pairs else tuple(pairs)


def text_of(pairs):
    """The text with these pairs, in their order."""
    if not pairs:
        return NOTHING
    return ", ".join([f"{first} many {many}" for first, many in pairs])
