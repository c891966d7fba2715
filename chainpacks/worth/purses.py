"""Purses: chained lots of coins, the amounts that can be paid from them, and trades between two of them."""

from chainpacks.base.checks import check_between, check_count
from chainpacks.base.words import is_integer, is_size
from chainpacks.decide.levels import check_together
from chainpacks.errors import InvalidOperation
from chainpacks.things.lots import Lot, check_lot


def _check(purse, amount):
    """Raise the error of the first one of these that is wrong, NoChain if the purse is not chained."""
    check_lot(purse)
    check_count(amount)
    check_together(purse.sizes)


def _smaller(purse, size):
    """The total of the coins that are smaller than a size."""
    return sum([each * purse[each] for each in purse.sizes if each < size])


def can_pay(purse, amount):
    """Whether the amount can be paid."""
    return lacking_sizes(purse, amount) == () and amount <= purse.total


def lacking_sizes(purse, amount):
    """The sizes that lack for the amount, ascending."""
    _check(purse, amount)
    return tuple([size for size in purse.sizes if _smaller(purse, size) < amount % size])


def _greatest_first(counts, amount):
    """The dict of the coins that come to an amount, the greatest taken first; None if they do not come to it."""
    taken = {}
    left = amount
    for size in sorted(counts, reverse=True):
        many = min(counts[size], left // size)
        left = left - many * size
        if many > 0:
            taken[size] = many
    return taken if left == 0 else None


def _check_paid(purse, amount):
    """Raise InvalidOperation if the amount cannot be paid."""
    if not can_pay(purse, amount):
        raise InvalidOperation("the amount cannot be paid")


def fewest_coins(purse, amount):
    """The payment with the fewest coins."""
    _check_paid(purse, amount)
    return Lot(_greatest_first(purse.counts, amount))


def most_coins(purse, amount):
    """The payment with the most coins."""
    _check_paid(purse, amount)
    # What is left in the purse pays the rest with as few coins as possible.
    return purse - Lot(_greatest_first(purse.counts, purse.total - amount))


def pay_paper(purse, amount):
    """Any pay paper of the purse and the amount."""
    lacking = lacking_sizes(purse, amount)
    if lacking:
        return ("lacks", lacking[0])
    if amount > purse.total:
        return ("over", purse.total)
    return ("paid", fewest_coins(purse, amount))


def is_pay_paper(purse, amount, value):
    """Whether the value is a pay paper of the purse and the amount."""
    lacking = lacking_sizes(purse, amount)
    if not isinstance(value, tuple) or len(value) != 2:
        return False
    word, told = value
    if word == "paid":
        return _is_part(told, purse) and told.total == amount
    if word == "lacks":
        return is_size(told) and told in lacking
    return word == "over" and is_integer(told) and told == purse.total and told < amount


def _is_part(value, purse):
    """Whether the value is a lot that is a part of the purse."""
    return isinstance(value, Lot) and value.is_part_of(purse)


def _steps(purse):
    """For each size, ascending: it, one more than the smaller coins come to, and how many remainders can be paid."""
    steps = []
    for size in purse.sizes:
        limit = _smaller(purse, size) + 1
        steps.append((size, limit, _below(steps, min(size, limit))))
    return steps


def _below(steps, bound):
    """How many amounts below a bound have by each size of the steps a remainder that smaller coins come to."""
    number = 0
    left = bound
    for size, limit, many in steps[::-1]:
        number = number + left // size * many
        left = min(left % size, limit)
    return number + left


def count_amounts(purse):
    """How many amounts can be paid, 0 among them."""
    check_lot(purse)
    check_together(purse.sizes)
    return _below(_steps(purse), purse.total + 1)


def amounts_below(purse, amount):
    """How many amounts that are less than this one can be paid."""
    _check(purse, amount)
    return _below(_steps(purse), min(amount, purse.total + 1))


def amount_at(purse, index):
    """The amount with this index among all that can be paid, ascending."""
    _check(purse, index)
    check_between(index, 0, count_amounts(purse) - 1)
    amount = 0
    left = index
    for size, _, many in _steps(purse)[::-1]:
        amount = amount + left // many * size
        left = left % many
    return amount


def is_gapless(purse):
    """Whether each multiple of the least coin that is at most the total can be paid."""
    number = count_amounts(purse)
    return len(purse) == 0 or number == purse.total // purse.sizes[0] + 1


def _check_trade(purse, till, amount):
    """Raise the error of the first one of these that is wrong, NoChain with the gap of all sizes."""
    check_lot(purse)
    check_lot(till)
    check_count(amount)
    check_together(purse.sizes + till.sizes)


def _kept(purse, till, amount):
    """The dict of coins that come to the amount and all of the till; None if the coins of both do not come to it."""
    # Who gives the payment, and keeps in the till what is no change, has just these coins.
    counts = {size: purse[size] + till[size] for size in purse.sizes + till.sizes}
    return _greatest_first(counts, amount + till.total)


def can_trade(purse, till, amount):
    """Whether there is a trade."""
    _check_trade(purse, till, amount)
    return _kept(purse, till, amount) is not None


def trade(purse, till, amount):
    """Any trade, as the pair of the payment and of the change."""
    _check_trade(purse, till, amount)
    kept = _kept(purse, till, amount)
    if kept is None:
        raise InvalidOperation("there is no trade")
    # As many coins as possible stay in the till, so no size is given and given back.
    payment = {size: many - till[size] for size, many in kept.items() if many > till[size]}
    change = {size: till[size] - kept.get(size, 0) for size in till.sizes if till[size] > kept.get(size, 0)}
    return (Lot(payment), Lot(change))


def is_trade(purse, till, amount, value):
    """Whether the value is a trade."""
    _check_trade(purse, till, amount)
    if not isinstance(value, tuple) or len(value) != 2:
        return False
    payment, change = value
    if not _is_part(payment, purse) or not _is_part(change, till):
        return False
    return payment.total - change.total == amount
