"""Checks of single numbers that are passed, which raise the error that keeps them."""

from chainpacks.base.words import is_count, is_integer, is_size
from chainpacks.errors import InvalidNumber


def check_size(value):
    """Raise InvalidNumber unless the value is a size."""
    if not is_size(value):
        raise InvalidNumber(value)


def check_count(value):
    """Raise InvalidNumber unless the value is an integer of at least 0."""
    if not is_count(value):
        raise InvalidNumber(value)


def check_between(value, low, high):
    """Raise InvalidNumber unless the value is an integer from the one number to the other one."""
    if not is_integer(value) or not low <= value <= high:
        raise InvalidNumber(value)
