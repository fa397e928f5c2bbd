"""The table of the rules that lead from facts to a new fact, and how facts match it."""

# Each row has the name of a rule, its premises and its conclusions. The letters a, b, c, d, x, y and z
# stand for names. The remainder of a premise is r or q, or s, which stands for one of at least 1.
# The remainder of a conclusion is a pair: how often r and how often q is added.
RULES = (
    ("chain", (("down", "a", "b"), ("down", "b", "c")), (("down", "a", "c"),)),
    ("equal", (("down", "a", "b"), ("down", "b", "a")), (("same", "a", "b"),)),
    ("split", (("same", "a", "b"),), (("down", "a", "b"), ("down", "b", "a"))),
    ("left", (("apart", "a", "c"), ("down", "a", "b")), (("apart", "b", "c"),)),
    ("right", (("apart", "a", "c"), ("down", "b", "c")), (("apart", "a", "b"),)),
    ("under", (("meet", "a", "b", "c"),), (("down", "a", "c"), ("down", "b", "c"))),
    ("deep", (("meet", "a", "b", "c"), ("down", "a", "d"), ("down", "b", "d")), (("down", "c", "d"),)),
    ("over", (("join", "a", "b", "c"),), (("down", "c", "a"), ("down", "c", "b"))),
    ("high", (("join", "a", "b", "c"), ("down", "d", "a"), ("down", "d", "b")), (("down", "d", "c"),)),
    ("turn", (("mirror", "a", "b"),), (("mirror", "b", "a"),)),
    ("image", (("mirror", "a", "b"), ("mirror", "a", "c")), (("same", "b", "c"),)),
    ("flip", (("mirror", "a", "x"), ("mirror", "b", "y"), ("down", "a", "b")), (("down", "y", "x"),)),
    ("flip", (("mirror", "a", "x"), ("mirror", "b", "y"), ("apart", "a", "b")), (("apart", "y", "x"),)),
    ("flip", (("mirror", "a", "x"), ("mirror", "b", "y"), ("rest", "a", "b", "r")), (("rest", "y", "x", (1, 0)),)),
    (
        "dual",
        (("mirror", "a", "x"), ("mirror", "b", "y"), ("mirror", "c", "z"), ("meet", "a", "b", "c")),
        (("join", "x", "y", "z"),),
    ),
    (
        "dual",
        (("mirror", "a", "x"), ("mirror", "b", "y"), ("mirror", "c", "z"), ("join", "a", "b", "c")),
        (("meet", "x", "y", "z"),),
    ),
    ("add", (("rest", "a", "b", "r"), ("rest", "b", "c", "q")), (("rest", "a", "c", (1, 1)),)),
    ("minus", (("rest", "a", "b", "r"),), (("rest", "b", "a", (-1, 0)),)),
    ("even", (("same", "a", "b"),), (("rest", "a", "b", (0, 0)),)),
    ("uneven", (("down", "a", "b"), ("rest", "a", "b", "s")), (("apart", "b", "a"),)),
)
AT_LEAST_ONE = "s"


def matched(pattern, fact, bound):
    """What the letters stand for if the pattern is the fact, with what is bound already, or None."""
    if pattern[0] != fact[0]:
        return None
    longer = dict(bound)
    for letter, value in zip(pattern[1:], fact[1:]):
        if longer.setdefault(letter, value) != value or (letter == AT_LEAST_ONE and value == 0):
            return None
    return longer


def filled(hues, pattern, bound):
    """The conclusion that the pattern gives if the letters stand for what is bound."""
    items = []
    for part in pattern[1:]:
        if isinstance(part, tuple):
            times_r, times_q = part
            items.append((times_r * bound.get("r", 0) + times_q * bound.get("q", 0)) % hues)
        else:
            items.append(bound[part])
    return (pattern[0], *items)


def conclusions_of(hues, rule, premises):
    """All facts that the rule gives from the premises, which are facts, in their order."""
    found = []
    for name, patterns, results in RULES:
        if name == rule and len(patterns) == len(premises):
            bound = matched_all(patterns, premises)
            if bound is not None:
                found.extend([filled(hues, result, bound) for result in results])
    return found


def matched_all(patterns, premises):
    """What the letters stand for if the patterns are the premises, or None."""
    bound = {}
    for pattern, premise in zip(patterns, premises):
        bound = matched(pattern, premise, bound)
        if bound is None:
            return None
    return bound
