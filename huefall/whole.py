"""Integers: what counts as one, which is every int except True and False, and their powers."""


def is_whole(value):
    """True if the value is an integer. Takes any value."""
    return isinstance(value, int) and not isinstance(value, bool)


def is_whole_in(value, low, high):
    """True if the value is an integer from `low` to `high`. Takes any value."""
    return is_whole(value) and low <= value <= high


def power(base, exponent):
    """The base to the power of an exponent of at least 0."""
    result = 1
    for _ in range(exponent):
        result = result * base
    return result
