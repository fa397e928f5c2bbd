"""What follows from told facts: their closure, its contradictions, and derivations that can be checked."""

from huefall.facts import check_fact, is_fact, names_in
from huefall.inference import SELF, TOLD, facts_of_itself, reasons_of
from huefall.ruletable import conclusions_of


def close(hues, told):
    """The told facts and every fact that the rules give, in ascending order."""
    return sorted(reasons_of(hues, told, names_in(hues, told)))


def contradictions(hues, told):
    """The pairs of facts of the closure that cannot both be true, in ascending order."""
    facts = close(hues, told)
    found = [(fact, ("down", *fact[1:])) for fact in facts if fact[0] == "apart" and ("down", *fact[1:]) in facts]
    rests = [fact for fact in facts if fact[0] == "rest"]
    found.extend([(fact, other) for fact in rests for other in rests if fact[:3] == other[:3] and fact[3] < other[3]])
    return sorted(found)


def is_step(hues, told, step):
    """True if the value is a step that follows by its rule from its premises. Takes any value of `step`."""
    return is_good_step(hues, told, names_in(hues, told), step)


def derivation(hues, told, fact):
    """A list of steps that leads to the fact, or None if it is not in the closure."""
    names = names_in(hues, told)
    check_fact(hues, fact)
    reasons = reasons_of(hues, told, names)
    if fact not in reasons:
        return None
    needed = {fact: True}
    for other in reversed(list(reasons)):
        if other in needed:
            _, premises = reasons[other]
            for premise in premises:
                needed[premise] = True
    return [(other, *reasons[other]) for other in reasons if other in needed]


def is_derivation(hues, told, fact, steps):
    """True if the value is a derivation of the fact. Takes any value of `steps`."""
    names = names_in(hues, told)
    check_fact(hues, fact)
    if not isinstance(steps, list) or not steps:
        return False
    shown = {}
    last = None
    for step in steps:
        if not is_good_step(hues, told, names, step):
            return False
        last, _, premises = step
        if last in shown or not all([premise in shown for premise in premises]):
            return False
        shown[last] = True
    return last == fact


def is_good_step(hues, told, names, step):
    """True if the value is a step from the told facts, which have these names. Takes any value of `step`."""
    if not isinstance(step, tuple) or len(step) != 3:
        return False
    fact, rule, premises = step
    if not is_fact(hues, fact) or not isinstance(rule, str) or not isinstance(premises, tuple):
        return False
    if rule == TOLD:
        return premises == () and fact in told
    if rule == SELF:
        return premises == () and fact in facts_of_itself(names)
    return all([is_fact(hues, premise) for premise in premises]) and fact in conclusions_of(hues, rule, premises)
