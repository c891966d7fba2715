"""Which values are integers, counts, sizes and names."""

MAX_FIGURES = 200
MAX_LETTERS = 8


def is_integer(value):
    """Whether the value is an integer of at most 200 digits."""
    if not isinstance(value, int) or isinstance(value, bool):
        return False
    # A digit takes less than four bits, and Python refuses to write out very long integers.
    if value.bit_length() > 4 * MAX_FIGURES:
        return False
    return len(str(abs(value))) <= MAX_FIGURES


def is_count(value):
    """Whether the value is such an integer of at least 0."""
    return is_integer(value) and value >= 0


def is_size(value):
    """Whether the value is such an integer of at least 1."""
    return is_integer(value) and value >= 1


def is_name(value):
    """Whether the value is a string of one to eight letters a to z."""
    if not isinstance(value, str) or not 1 <= len(value) <= MAX_LETTERS:
        return False
    return all(["a" <= letter <= "z" for letter in value])
