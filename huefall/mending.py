"""Mended logs: the entries of a log that can be true together, and what shows that no more of them can."""

from huefall.errors import InvalidEntry
from huefall.lengths import is_length
from huefall.states import is_state
from huefall.statelists import grouped
from huefall.whole import is_whole, is_whole_in


def follows(house, first, second):
    """True if the second entry follows the first."""
    check_log(house, [first, second])
    return is_next(house, first, second)


def longest_kept(house, log):
    """The longest kept list, the smallest one if there are several."""
    check_log(house, log)
    found = []
    for group in reversed(tails(house, log)):
        # The groups are descending, so the last index that fits is the smallest.
        fitting = [index for index in group if not found or is_next_index(house, log, found[-1], index)]
        found.append(fitting[-1])
    return found


def groups(house, log):
    """The lists of the indexes of each grade, ascending."""
    check_log(house, log)
    return grouped(list(range(len(log))), lambda index, earlier: is_next(house, log[earlier], log[index]))


def is_mended(house, log, kept, parts):
    """True if `kept` is a kept list and `parts` shows that there is no longer one. Both may be any values."""
    check_log(house, log)
    if not is_index_list(log, kept) or not is_parting(log, parts) or len(kept) != len(parts):
        return False
    return is_kept(house, log, kept) and all([is_free_of_following(house, log, part) for part in parts])


def is_entry(house, value):
    """True if the value is an entry of a log. Takes any value."""
    if not isinstance(value, tuple) or len(value) != 2:
        return False
    clock, state = value
    return is_whole(clock) and is_state(house, state)


def check_log(house, log):
    """Raise InvalidEntry for the first item of the log that is not an entry."""
    for index, entry in enumerate(log):
        if not is_entry(house, entry):
            raise InvalidEntry(index)


def is_next(house, first, second):
    """True if the second entry follows the first. The arguments are not checked."""
    clock, state = first
    later_clock, later_state = second
    # Most entries of a log fail here, and a length is much more to work out.
    if later_clock < clock:
        return False
    return is_length(house, state, later_state, later_clock - clock)


def is_next_index(house, log, index, later):
    """True if the entry with the index `later` comes behind the other one and follows it."""
    return index < later and is_next(house, log[index], log[later])


def tails(house, log):
    """The lists of the indexes with which the longest kept list of 1, 2 and so on entries begins, descending."""
    descending = list(reversed(range(len(log))))
    return grouped(descending, lambda index, later: is_next(house, log[index], log[later]))


def is_index_list(log, value):
    """True if the value is an ascending list of indexes of the log. Takes any value."""
    if not isinstance(value, list) or not all([is_whole_in(index, 0, len(log) - 1) for index in value]):
        return False
    return all([value[place] < value[place + 1] for place in range(len(value) - 1)])


def is_parting(log, value):
    """True if the value is a list of ascending lists that have each index of the log once. Takes any value."""
    if not isinstance(value, list) or not all([is_index_list(log, part) and part != [] for part in value]):
        return False
    return sorted([index for part in value for index in part]) == list(range(len(log)))


def is_kept(house, log, indexes):
    """True if each entry of the ascending list follows the one before."""
    pairs = [(indexes[place], indexes[place + 1]) for place in range(len(indexes) - 1)]
    return all([is_next(house, log[index], log[later]) for index, later in pairs])


def is_free_of_following(house, log, indexes):
    """True if no entry of the ascending list follows an earlier one of it."""
    for place, index in enumerate(indexes):
        for later in indexes[place + 1:]:
            if is_next(house, log[index], log[later]):
                return False
    return True
