"""How the rules of the table lead from told facts to their closure, and by which premises."""

from huefall.facts import names_of
from huefall.ruletable import RULES, filled, matched

TOLD = "told"
SELF = "self"


def reasons_of(hues, told, names):
    """For each fact of the closure its rule and premises. A fact comes after all its premises.

    Each fact in turn is added to the index, and then meets all facts that were added before it.
    """
    reasons = {fact: (TOLD, ()) for fact in told}
    for fact in facts_of_itself(names):
        reasons.setdefault(fact, (SELF, ()))
    waiting = list(reasons)
    index = {}
    place = 0
    while place < len(waiting):
        fact = waiting[place]
        add_to_index(index, fact)
        for conclusion, rule, premises in steps_with(hues, index, fact):
            if conclusion not in reasons:
                reasons[conclusion] = (rule, premises)
                waiting.append(conclusion)
        place += 1
    return reasons


def facts_of_itself(names):
    """The facts about one name twice that are true of every state."""
    found = []
    for name in names:
        found.append(("down", name, name))
        found.append(("rest", name, name, 0))
    return found


def add_to_index(index, fact):
    """Add the fact to the lists of those that have its word and one of its names in the same place."""
    for place, name in enumerate(names_of(fact), start=1):
        index.setdefault((fact[0], place, name), []).append(fact)


def steps_with(hues, index, fact):
    """Yield each conclusion with its rule and premises, the fact being one and the others in the index."""
    for rule, patterns, results in RULES:
        for place, pattern in enumerate(patterns):
            bound = matched(pattern, fact, {})
            if bound is not None:
                for letters, premises in completed(index, patterns, place, fact, bound):
                    for result in results:
                        yield filled(hues, result, letters), rule, premises


def completed(index, patterns, place, fact, bound):
    """The ways to match all patterns if the fact is at the place: pairs of the letters and the premises."""
    ways = [(bound, ())]
    # Backwards, since the last premise of a rule shares a letter with each of the others.
    for at in reversed(range(len(patterns))):
        if at == place:
            ways = [(letters, (fact, *premises)) for letters, premises in ways]
        else:
            ways = with_one_more(index, patterns[at], ways)
    return ways


def with_one_more(index, pattern, ways):
    """Each way with each fact of the index that matches the pattern, put before the premises."""
    longer = []
    for letters, premises in ways:
        for candidate in candidates(index, pattern, letters):
            further = matched(pattern, candidate, letters)
            if further is not None:
                longer.append((further, (candidate, *premises)))
    return longer


def candidates(index, pattern, letters):
    """The facts of the index that agree with the pattern at the first letter that stands for something."""
    for place, letter in enumerate(pattern[1:], start=1):
        if letter in letters:
            return index.get((pattern[0], place, letters[letter]), [])
    return []
