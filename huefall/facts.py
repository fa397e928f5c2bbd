"""Facts about named states of one house."""

from huefall.errors import InvalidFact, TooMany
from huefall.lattice import join, meet
from huefall.lengths import worth
from huefall.reach import reaches
from huefall.states import check_state, mirror
from huefall.whole import is_whole_in

MOST_NAMES = 8
MOST_LETTERS = 8

# The words of facts, each with the number of names behind it.
NAME_COUNTS = {"down": 2, "apart": 2, "same": 2, "mirror": 2, "rest": 2, "meet": 3, "join": 3}
# The word of the facts that have a remainder behind their names.
REST = "rest"


def is_fact(hues, value):
    """True if the value is a fact. Takes any value."""
    if not isinstance(value, tuple) or not value or not isinstance(value[0], str) or value[0] not in NAME_COUNTS:
        return False
    names = value[1:]
    if value[0] == REST:
        if not is_whole_in(value[-1], 0, hues - 1):
            return False
        names = value[1:-1]
    return len(names) == NAME_COUNTS[value[0]] and all([is_name(name) for name in names])


def names_in(hues, told):
    """The different names in the told facts, in ascending order."""
    for fact in told:
        check_fact(hues, fact)
    names = sorted(set([name for fact in told for name in names_of(fact)]))
    if len(names) > MOST_NAMES:
        raise TooMany(len(names))
    return names


def facts_of(house, names, states):
    """All facts that are true of the states under the names, in ascending order."""
    for state in states:
        check_state(house, state)
    named = list(zip(names, states))
    found = []
    for name, state in named:
        for other_name, other in named:
            found.extend(facts_of_two(house, name, state, other_name, other))
            lowest = meet(house, state, other)
            highest = join(house, state, other)
            found.extend([("meet", name, other_name, third) for third, bound in named if bound == lowest])
            found.extend([("join", name, other_name, third) for third, bound in named if bound == highest])
    return sorted(found)


def is_name(value):
    """True if the value is a name: a few small letters. Takes any value."""
    if not isinstance(value, str) or not 1 <= len(value) <= MOST_LETTERS:
        return False
    return all(["a" <= letter <= "z" for letter in value])


def check_fact(hues, fact):
    """Raise InvalidFact if the value is not a fact."""
    if not is_fact(hues, fact):
        raise InvalidFact(fact)


def names_of(fact):
    """The names in the fact, as a tuple."""
    return fact[1:1 + NAME_COUNTS[fact[0]]]


def facts_of_two(house, name, state, other_name, other):
    """The facts with these two names, in this order and without a third one, that are true of the states."""
    found = [("down" if reaches(house, state, other) else "apart", name, other_name)]
    if state == other:
        found.append(("same", name, other_name))
    if mirror(house, state) == other:
        found.append(("mirror", name, other_name))
    remainder = (worth(house, state) - worth(house, other)) % house.hues
    return [*found, (REST, name, other_name, remainder)]
