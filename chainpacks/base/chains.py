"""Sizes, chains of sizes that divide one another, and sizes that clash."""

from chainpacks.base.checks import check_count, check_size
from chainpacks.base.words import is_count, is_size
from chainpacks.errors import InvalidNumber, InvalidOperation, InvalidSizes, NoChain, TooMany

MAX_SIZES = 12


def is_sizes(value):
    """Whether the value is an ascending tuple of one to twelve sizes."""
    if not isinstance(value, tuple) or not 1 <= len(value) <= MAX_SIZES:
        return False
    if not all([is_size(size) for size in value]):
        return False
    return all([low < high for low, high in zip(value, value[1:])])


def is_chain(value):
    """Whether the value is a tuple of sizes of which each one divides the next one."""
    return is_sizes(value) and first_gap(value) is None


def first_gap(sizes):
    """The first neighbours of ascending sizes, however many, that do not divide; None if all do."""
    for low, high in zip(sizes, sizes[1:]):
        if high % low != 0:
            return (low, high)
    return None


def check_sizes(sizes):
    """Raise InvalidSizes unless these are sizes."""
    if not is_sizes(sizes):
        raise InvalidSizes("no ascending tuple of one to twelve sizes")


def check_chain(chain):
    """Raise InvalidSizes unless these are sizes, NoChain if they are no chain."""
    check_sizes(chain)
    gap = first_gap(chain)
    if gap is not None:
        raise NoChain(gap)


def gap_of(sizes):
    """The gap of the sizes, None for a chain."""
    check_sizes(sizes)
    return first_gap(sizes)


def quotients(chain):
    """The quotients of neighbours, the greater one by the lesser one."""
    check_chain(chain)
    return tuple([high // low for low, high in zip(chain, chain[1:])])


def cut_to(size, number):
    """The greatest multiple of the size that is at most the number."""
    check_size(size)
    check_count(number)
    return number // size * size


def figures_of(chain, number):
    """The rest of the number by the chain, and the tuple of its figures."""
    check_chain(chain)
    check_count(number)
    figures = []
    left = number // chain[0]
    for quotient in quotients(chain):
        figures.append(left % quotient)
        left = left // quotient
    # No size stands above the last one, so its figure is all that is left.
    figures.append(left)
    return (number % chain[0], tuple(figures))


def number_of(chain, rest, figures):
    """The number with this rest and these figures by the chain."""
    check_chain(chain)
    if not is_count(rest) or rest >= chain[0]:
        raise InvalidNumber(rest)
    if not _are_figures(chain, figures):
        raise InvalidOperation("no tuple of the figures of a number by this chain")
    return rest + sum([figure * size for figure, size in zip(figures, chain)])


def _are_figures(chain, value):
    """Whether the value is a tuple of the figures of some number by the chain."""
    if not isinstance(value, tuple) or len(value) != len(chain):
        return False
    if not all([is_count(figure) for figure in value]):
        return False
    return all([figure < quotient for figure, quotient in zip(value, quotients(chain))])


def joined_chain(one, other):
    """The chain of all sizes of two chains."""
    check_chain(one)
    check_chain(other)
    sizes = tuple(sorted(set(one + other)))
    if len(sizes) > MAX_SIZES:
        raise TooMany(MAX_SIZES)
    gap = first_gap(sizes)
    if gap is not None:
        raise NoChain(gap)
    return sizes


def is_link(low, high, value):
    """Whether the value is a size that is divided by the one size and divides the other one."""
    check_size(low)
    check_size(high)
    if high % low != 0:
        raise InvalidOperation("the lower size does not divide the higher one")
    return is_size(value) and value % low == 0 and high % value == 0


def longest_chain(sizes):
    """Any chain of as many of the sizes as possible."""
    check_sizes(sizes)
    longest = []
    for size in sizes:
        ahead = [chain for chain in longest if size % chain[-1] == 0]
        longest.append(max(ahead, key=len, default=()) + (size,))
    return max(longest, key=len)


def many_chains(sizes):
    """How many chains there are of at least one of the sizes."""
    check_sizes(sizes)
    ending = {}
    for size in sizes:
        ending[size] = 1 + sum([ending[low] for low in ending if size % low == 0])
    return sum(ending.values())


def chain_parts(sizes):
    """Any ascending tuple of as few chains as possible in which each size stands once."""
    check_sizes(sizes)
    ahead = _links(sizes)
    parts = {}
    for size in sizes:
        # Each part is kept under its last size, where the next size of it finds it.
        if size in ahead:
            parts[size] = parts.pop(ahead[size]) + (size,)
        else:
            parts[size] = (size,)
    return tuple(sorted(parts.values()))


def clashing(sizes):
    """Any ascending tuple of as many of the sizes as possible that clash."""
    check_sizes(sizes)
    chosen = []
    rest = sizes
    while rest:
        beside = tuple([size for size in rest[1:] if size % rest[0] != 0])
        # The first size is taken only if no more sizes clash without it.
        if 1 + _least_parts(beside) == _least_parts(rest):
            chosen.append(rest[0])
            rest = beside
        else:
            rest = rest[1:]
    return tuple(chosen)


def is_chain_parts(sizes, value):
    """Whether the value is one that chain_parts can return."""
    check_sizes(sizes)
    if not isinstance(value, tuple) or not all([is_chain(part) for part in value]):
        return False
    if sorted([size for part in value for size in part]) != list(sizes):
        return False
    return sorted(value) == list(value) and len(value) == _least_parts(sizes)


def is_clashing(sizes, value):
    """Whether the value is one that clashing can return."""
    check_sizes(sizes)
    if not is_sizes(value) or not all([size in sizes for size in value]):
        return False
    if any([high % low == 0 for high in value for low in value if low < high]):
        return False
    return len(value) == _least_parts(sizes)


def _least_parts(sizes):
    """The least number of chains of all sizes, and so the greatest number of them that clash."""
    return len(sizes) - len(_links(sizes))


def _links(sizes):
    """A dict from as many sizes as possible to the lesser one ahead of it in the same chain."""
    ahead = {}
    for low in sizes:
        _link(low, sizes, ahead, [])
    return ahead


def _link(low, sizes, ahead, tried):
    """Put a size ahead of a greater one, perhaps moving others; whether that could be done."""
    for high in sizes:
        if high > low and high % low == 0 and high not in tried:
            tried.append(high)
            if high not in ahead or _link(ahead[high], sizes, ahead, tried):
                ahead[high] = low
                return True
    return False
