"""What counts as an integer: every int except True and False."""


def is_whole(value):
    """True if the value is an integer. Takes any value."""
    return isinstance(value, int) and not isinstance(value, bool)


def is_whole_in(value, low, high):
    """True if the value is an integer from `low` to `high`. Takes any value."""
    return is_whole(value) and low <= value <= high
