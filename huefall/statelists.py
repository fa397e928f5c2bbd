"""Lists of states: sorted, uppermost and lowermost states, layers and longest chains."""

from huefall.reach import reaches
from huefall.states import check_state, number_of


def sort_states(house, states):
    """The states, duplicates included, in descending order of number."""
    check_states(house, states)
    return sorted(states, key=lambda state: number_of(house, state), reverse=True)


def uppermost(house, states):
    """The states that are not reachable from a different state of the list."""
    return first_group(layers(house, states))


def lowermost(house, states):
    """The states from which no different state of the list is reachable."""
    return list(reversed(first_group(heights(house, states))))


def longest_chain(house, states):
    """The longest list of different states, each reachable from the one before."""
    found = []
    for group in reversed(heights(house, states)):
        # The groups are ascending, so the last state that fits has the greatest number.
        fitting = [state for state in group if not found or reaches(house, found[-1], state)]
        found.append(fitting[-1])
    return found


def layers(house, states):
    """The layers of the list, the uppermost states first, each in descending order of number."""
    check_states(house, states)
    return grouped(distinct(house, states), lambda state, other: reaches(house, other, state))


def heights(house, states):
    """The layers counted from the lowermost states up, each in ascending order of number.

    A state of the group with the index k begins a chain of k + 1 states and no longer one.
    """
    ascending = list(reversed(distinct(house, states)))
    return grouped(ascending, lambda state, other: reaches(house, state, other))


def check_states(house, states):
    """Raise InvalidState for the first item of the list that is not a state of the house."""
    for state in states:
        check_state(house, state)


def distinct(house, states):
    """The different states of the list in descending order of number."""
    check_states(house, states)
    by_number = {number_of(house, state): state for state in states}
    return [by_number[number] for number in sorted(by_number, reverse=True)]


def grouped(states, follows):
    """Each state in the group behind the last group that has a state that it follows.

    A state may follow only states that come before it in the list.
    """
    groups = []
    for state in states:
        at = len(groups)
        while at > 0 and not follows_one(state, groups[at - 1], follows):
            at -= 1
        if at == len(groups):
            groups.append([])
        groups[at].append(state)
    return groups


def follows_one(state, others, follows):
    """True if the state follows one of the others."""
    for other in others:
        if follows(state, other):
            return True
    return False


def first_group(groups):
    """The first group, or an empty list if there is none."""
    return groups[0] if groups else []
