import random
from itertools import combinations, permutations, product

from huefall.closing import close, contradictions, derivation, is_derivation, is_step
from huefall.errors import InvalidFact, TooMany
from huefall.facts import facts_of
from huefall.shapes import chain, hillside
from huefall.states import state_of
from tests.helpers import FaultTest, Unequal, small_houses
from tests.test_facts import NAMES, no_facts, right_facts

# Each rule of the table of point 85 with premises of different names, and its conclusions, for 5 hues.
ROWS = [
    ("chain", [("down", "a", "b"), ("down", "b", "c")], [("down", "a", "c")]),
    ("equal", [("down", "a", "b"), ("down", "b", "a")], [("same", "a", "b")]),
    ("split", [("same", "a", "b")], [("down", "a", "b"), ("down", "b", "a")]),
    ("left", [("apart", "a", "c"), ("down", "a", "b")], [("apart", "b", "c")]),
    ("right", [("apart", "a", "c"), ("down", "b", "c")], [("apart", "a", "b")]),
    ("under", [("meet", "a", "b", "c")], [("down", "a", "c"), ("down", "b", "c")]),
    ("deep", [("meet", "a", "b", "c"), ("down", "a", "d"), ("down", "b", "d")], [("down", "c", "d")]),
    ("over", [("join", "a", "b", "c")], [("down", "c", "a"), ("down", "c", "b")]),
    ("high", [("join", "a", "b", "c"), ("down", "d", "a"), ("down", "d", "b")], [("down", "d", "c")]),
    ("turn", [("mirror", "a", "b")], [("mirror", "b", "a")]),
    ("image", [("mirror", "a", "b"), ("mirror", "a", "c")], [("same", "b", "c")]),
    ("flip", [("mirror", "a", "x"), ("mirror", "b", "y"), ("down", "a", "b")], [("down", "y", "x")]),
    ("flip", [("mirror", "a", "x"), ("mirror", "b", "y"), ("apart", "a", "b")], [("apart", "y", "x")]),
    ("flip", [("mirror", "a", "x"), ("mirror", "b", "y"), ("rest", "a", "b", 3)], [("rest", "y", "x", 3)]),
    (
        "dual",
        [("mirror", "a", "x"), ("mirror", "b", "y"), ("mirror", "c", "z"), ("meet", "a", "b", "c")],
        [("join", "x", "y", "z")],
    ),
    (
        "dual",
        [("mirror", "a", "x"), ("mirror", "b", "y"), ("mirror", "c", "z"), ("join", "a", "b", "c")],
        [("meet", "x", "y", "z")],
    ),
    ("add", [("rest", "a", "b", 3), ("rest", "b", "c", 4)], [("rest", "a", "c", 2)]),
    ("minus", [("rest", "a", "b", 3)], [("rest", "b", "a", 2)]),
    ("even", [("same", "a", "b")], [("rest", "a", "b", 0)]),
    ("uneven", [("down", "a", "b"), ("rest", "a", "b", 3)], [("apart", "b", "a")]),
]
RULES = sorted({rule for rule, _, _ in ROWS})


def conclusions_by_hand(hues, rule, premises):
    """What a rule gives from premises, which are facts, written out rule by rule."""
    match (rule, *premises):
        case ("chain", ("down", a, b), ("down", e, c)) if b == e:
            return [("down", a, c)]
        case ("equal", ("down", a, b), ("down", e, f)) if (e, f) == (b, a):
            return [("same", a, b)]
        case ("split", ("same", a, b)):
            return [("down", a, b), ("down", b, a)]
        case ("left", ("apart", a, c), ("down", e, b)) if a == e:
            return [("apart", b, c)]
        case ("right", ("apart", a, c), ("down", b, e)) if c == e:
            return [("apart", a, b)]
        case ("under", ("meet", a, b, c)):
            return [("down", a, c), ("down", b, c)]
        case ("deep", ("meet", a, b, c), ("down", e, d), ("down", f, g)) if (e, f, g) == (a, b, d):
            return [("down", c, d)]
        case ("over", ("join", a, b, c)):
            return [("down", c, a), ("down", c, b)]
        case ("high", ("join", a, b, c), ("down", d, e), ("down", f, g)) if (e, f, g) == (a, d, b):
            return [("down", d, c)]
        case ("turn", ("mirror", a, b)):
            return [("mirror", b, a)]
        case ("image", ("mirror", a, b), ("mirror", e, c)) if a == e:
            return [("same", b, c)]
        case ("flip", ("mirror", a, x), ("mirror", b, y), ("down" | "apart" | "rest" as word, e, f, *rest)):
            return [(word, y, x, *rest)] if (e, f) == (a, b) else []
        case ("dual", ("mirror", a, x), ("mirror", b, y), ("mirror", c, z), ("meet" | "join" as word, *names)):
            return [("join" if word == "meet" else "meet", x, y, z)] if names == [a, b, c] else []
        case ("add", ("rest", a, b, r), ("rest", e, c, q)) if b == e:
            return [("rest", a, c, (r + q) % hues)]
        case ("minus", ("rest", a, b, r)):
            return [("rest", b, a, -r % hues)]
        case ("even", ("same", a, b)):
            return [("rest", a, b, 0)]
        case ("uneven", ("down", a, b), ("rest", e, f, r)) if (e, f) == (a, b) and r >= 1:
            return [("apart", b, a)]
    return []


def closed_by_hand(hues, told):
    """The closure, by trying every rule with all facts until nothing is new."""
    names = sorted({name for fact in told for name in fact[1:] if isinstance(name, str)})
    facts = {*told, *[("down", name, name) for name in names], *[("rest", name, name, 0) for name in names]}
    shapes = {(rule, *[premise[0] for premise in premises]) for rule, premises, _ in ROWS}
    size = -1
    while size < len(facts):
        size = len(facts)
        by_word = {}
        for fact in facts:
            by_word.setdefault(fact[0], []).append(fact)
        for rule, *words in shapes:
            for premises in product(*[by_word.get(word, []) for word in words]):
                facts.update(conclusions_by_hand(hues, rule, premises))
    return sorted(facts)


def is_step_by_hand(hues, told, fact, rule, premises):
    """Whether the fact follows, for a fact and premises that are facts."""
    if rule == "told":
        return fact in told and not premises
    if rule == "self":
        names = {name for other in told for name in other[1:] if isinstance(name, str)}
        return not premises and fact[1] in names and fact in [("down", *fact[1:2] * 2), ("rest", *fact[1:2] * 2, 0)]
    return fact in conclusions_by_hand(hues, rule, premises)


def is_derivation_by_hand(hues, told, fact, steps):
    """The check of point 87 for a list of triples of facts, rules and facts."""
    facts = [step[0] for step in steps]
    return (
        steps != []
        and facts[-1] == fact
        and len(set(facts)) == len(facts)
        and all(is_step_by_hand(hues, told, *step) for step in steps)
        and all(premise in facts[:index] for index, step in enumerate(steps) for premise in step[2])
    )


def random_fact(draw, hues, names, word):
    """A fact of the word."""
    chosen = [draw.choice(names) for _ in range(3 if word in ("meet", "join") else 2)]
    return (word, *chosen, *([draw.randrange(hues)] if word == "rest" else []))


def random_facts(draw, hues, names, size):
    """Told facts, some of which may contradict each other."""
    words = ["down", "down", "apart", "same", "mirror", "mirror", "rest", "meet", "join"]
    return [random_fact(draw, hues, names, draw.choice(words)) for _ in range(size)]


def random_lists(seed, many):
    """Pairs of a number of hues and told facts."""
    draw = random.Random(seed)
    for _ in range(many):
        hues = draw.choice([2, 3, 4])
        yield hues, random_facts(draw, hues, NAMES[:draw.choice([2, 3, 3, 4])], draw.randrange(1, 6))


class StepsTest(FaultTest):
    """Point 85."""

    def test_each_rule_where_it_fits(self):
        self.assertEqual(len(RULES), 17)
        for rule, premises, conclusions in ROWS:
            self.assertEqual(conclusions_by_hand(5, rule, premises), conclusions)
            for fact in conclusions:
                self.assertIs(is_step(5, [], (fact, rule, tuple(premises))), True)
                # The premises need not be told, and nothing else changes what follows.
                self.assertIs(is_step(5, premises, (fact, rule, tuple(premises))), True)

    def test_each_rule_with_premises_in_another_order(self):
        for rule, premises, conclusions in ROWS:
            for order in permutations(premises):
                for fact in conclusions:
                    self.assertIs(is_step(5, [], (fact, rule, order)), list(order) == premises)
        # In another order the premises fit with other names.
        self.assertIs(is_step(5, [], (("same", "b", "a"), "equal", (("down", "b", "a"), ("down", "a", "b")))), True)
        self.assertIs(is_step(5, [], (("same", "a", "b"), "equal", (("down", "b", "a"), ("down", "a", "b")))), False)
        self.assertIs(is_step(5, [], (("same", "c", "b"), "image", (("mirror", "a", "c"), ("mirror", "a", "b")))), True)
        self.assertIs(is_step(5, [], (("down", "a", "c"), "chain", (("down", "b", "c"), ("down", "a", "b")))), False)

    def test_each_rule_with_another_name_or_remainder(self):
        for rule, premises, conclusions in ROWS:
            for fact in conclusions:
                for changed in self.changed(fact):
                    expected = changed in conclusions
                    self.assertIs(is_step(5, [], (changed, rule, tuple(premises))), expected)
                for at, premise in enumerate(premises):
                    for changed in self.changed(premise):
                        others = (*premises[:at], changed, *premises[at + 1:])
                        expected = fact in conclusions_by_hand(5, rule, others)
                        self.assertIs(is_step(5, [], (fact, rule, others)), expected)

    def changed(self, fact):
        """The fact with another word, or with another item in one place."""
        found = [(word, *fact[1:]) for word in ("down", "apart", "same", "mirror") if len(fact) == 3]
        found += [(word, *fact[1:]) for word in ("meet", "join") if fact[0] in ("meet", "join")]
        for place in range(1, len(fact)):
            for item in range(5) if isinstance(fact[place], int) else ("a", "b", "c", "d", "x", "y", "z", "new"):
                found.append((*fact[:place], item, *fact[place + 1:]))
        return found

    def test_each_rule_with_another_number_of_premises(self):
        for rule, premises, conclusions in ROWS:
            for fact in conclusions:
                for at in range(len(premises)):
                    self.assertIs(is_step(5, [], (fact, rule, (*premises[:at], *premises[at + 1:]))), False)
                    self.assertIs(is_step(5, [], (fact, rule, (*premises, premises[at]))), False)
                self.assertIs(is_step(5, [], (fact, rule, ())), False)

    def test_each_rule_under_another_name(self):
        for rule, premises, conclusions in ROWS:
            for other in [*RULES, "told", "self", "", "Chain", "other"]:
                for fact in conclusions:
                    expected = fact in conclusions_by_hand(5, other, premises)
                    self.assertIs(is_step(5, [], (fact, other, tuple(premises))), expected)
                    self.assertEqual(expected, other == rule)

    def test_letters_for_the_same_name(self):
        for rule, premises, conclusions in ROWS:
            for names in (("n",) * 7, ("n", "n", "m", "m", "m", "n", "n"), ("m", "n", "n", "m", "n", "n", "m")):
                new = dict(zip("abcdxyz", names))
                turned = [tuple(new.get(item, item) for item in premise) for premise in premises]
                for fact in conclusions:
                    told = tuple(new.get(item, item) for item in fact)
                    self.assertIs(is_step(5, [], (told, rule, tuple(turned))), True)
        # One fact is two of the premises.
        self.assertIs(is_step(2, [], (("same", "a", "a"), "equal", (("down", "a", "a"),) * 2)), True)
        self.assertIs(is_step(2, [], (("same", "b", "b"), "image", (("mirror", "a", "b"),) * 2)), True)
        self.assertIs(is_step(3, [], (("rest", "a", "a", 1), "add", (("rest", "a", "a", 2),) * 2)), True)

    def test_remainders(self):
        for hues in (2, 3, 10):
            for r in range(hues):
                told = ("rest", "a", "b", r)
                self.assertIs(is_step(hues, [], (("rest", "b", "a", -r % hues), "minus", (told,))), True)
                uneven = (("apart", "b", "a"), "uneven", (("down", "a", "b"), told))
                self.assertIs(is_step(hues, [], uneven), r >= 1)
                for q in range(hues):
                    for p in range(hues):
                        step = (("rest", "a", "c", p), "add", (told, ("rest", "b", "c", q)))
                        self.assertIs(is_step(hues, [], step), p == (r + q) % hues)

    def test_told_facts(self):
        told = [("down", "a", "b"), ("rest", "b", "c", 1)]
        for fact in told:
            self.assertIs(is_step(3, told, (fact, "told", ())), True)
            self.assertIs(is_step(3, told, (fact, "told", (fact,))), False)
            self.assertIs(is_step(3, [], (fact, "told", ())), False)
        for fact in (("down", "b", "a"), ("rest", "b", "c", 2), ("down", "a", "a")):
            self.assertIs(is_step(3, told, (fact, "told", ())), False)

    def test_facts_of_one_name(self):
        told = [("down", "a", "b"), ("rest", "b", "c", 1)]
        for name in ("a", "b", "c", "d"):
            for fact in (("down", name, name), ("rest", name, name, 0)):
                self.assertIs(is_step(3, told, (fact, "self", ())), name != "d")
                self.assertIs(is_step(3, [], (fact, "self", ())), False)
                self.assertIs(is_step(3, told, (fact, "self", (told[0],))), False)
        for fact in (("down", "a", "b"), ("rest", "a", "a", 1), ("same", "a", "a"), ("rest", "a", "b", 0)):
            self.assertIs(is_step(3, told, (fact, "self", ())), False)

    def test_random_steps(self):
        draw = random.Random(8)
        for _ in range(20000):
            told = random_facts(draw, 3, "ab", 4)
            rule, premises, _ = draw.choice(ROWS)
            chosen = tuple(random_fact(draw, 3, "ab", premise[0]) for premise in premises)
            for fact in [*conclusions_by_hand(3, rule, chosen), told[0]]:
                expected = is_step_by_hand(3, told, fact, rule, chosen)
                self.assertIs(is_step(3, told, (fact, rule, chosen)), expected)

    def test_values_of_other_kinds(self):
        told = [("down", "a", "b"), ("down", "b", "c")]
        fact, rule, premises = ("down", "a", "c"), "chain", (("down", "a", "b"), ("down", "b", "c"))
        self.assertIs(is_step(3, told, (fact, rule, premises)), True)
        for value in [None, True, 0, "", "chain", (), [], {}, Unequal(), [fact, rule, premises], (fact, rule)]:
            self.assertIs(is_step(3, told, value), False)
        self.assertIs(is_step(3, told, (fact, rule, premises, ())), False)
        for wrong in [None, True, 0, b"chain", ["chain"], ("chain",), {}, Unequal()]:
            self.assertIs(is_step(3, told, (fact, wrong, premises)), False)
        for wrong in [None, True, 0, "", {}, list(premises), {premises: 0}, Unequal(), (Unequal(),) * 2]:
            self.assertIs(is_step(3, told, (fact, rule, wrong)), False)
            self.assertIs(is_step(3, told, (told[0], "told", wrong)), False)
            self.assertIs(is_step(3, told, (("down", "a", "a"), "self", wrong)), False)
        for wrong in no_facts(3):
            self.assertIs(is_step(3, told, (wrong, rule, premises)), False)
            self.assertIs(is_step(3, told, (wrong, "told", ())), False)
            self.assertIs(is_step(3, told, (wrong, "self", ())), False)
            self.assertIs(is_step(3, told, (fact, rule, (wrong, premises[1]))), False)
            self.assertIs(is_step(3, told, (fact, rule, (premises[0], wrong))), False)

    def test_premises_that_are_not_facts_never_fit(self):
        self.assertIs(is_step(3, [], (("rest", "b", "a", 0), "minus", (("rest", "a", "b", 3),))), False)
        self.assertIs(is_step(3, [], (("rest", "b", "a", 2), "minus", (("rest", "a", "b", True),))), False)
        self.assertIs(is_step(4, [], (("rest", "b", "a", 1), "minus", (("rest", "a", "b", 3),))), True)
        self.assertIs(is_step(3, [], (("mirror", "B", "a"), "turn", (("mirror", "a", "B"),))), False)
        self.assertIs(is_step(3, [], (("mirror", "b", "a"), "turn", (("mirror", "a", "b", "c"),))), False)


class CloseTest(FaultTest):
    """Point 86."""

    def test_ordinary_closure(self):
        expected = [("apart", "b", "a"), ("down", "a", "a"), ("down", "a", "b"), ("down", "b", "b")]
        expected += [("rest", "a", "a", 0), ("rest", "a", "b", 1), ("rest", "b", "a", 2), ("rest", "b", "b", 0)]
        expected += [("same", "a", "a"), ("same", "b", "b")]
        self.assertEqual(close(3, [("rest", "a", "b", 1), ("down", "a", "b")]), expected)
        self.assertIs(type(close(3, [])), list)

    def test_no_told_facts(self):
        for hues in range(2, 11):
            self.assertEqual(close(hues, []), [])
            self.assertEqual(contradictions(hues, []), [])

    def test_each_rule_gives_its_conclusions(self):
        for rule, premises, conclusions in ROWS:
            found = close(5, premises)
            for fact in [*premises, *conclusions]:
                self.assertIn(fact, found, rule)
            self.assertEqual(found, close(5, [*premises[::-1], *premises]))
            if len(premises) < 4:
                self.assertEqual(found, closed_by_hand(5, premises))

    def test_agrees_with_trying_all_rules(self):
        for hues, told in random_lists(21, 150):
            found = close(hues, told)
            self.assertEqual(found, closed_by_hand(hues, told))
            self.assertEqual(found, sorted(set(found)))
            self.assertTrue(set(told) <= set(found))
            self.assertEqual(close(hues, found), found)

    def test_facts_that_are_true_of_states(self):
        draw = random.Random(6)
        for house in [*small_houses(), hillside(2, 3, 10)]:
            names = draw.sample(NAMES, 5)
            states = [state_of(house, draw.randrange(house.hues ** house.count)) for _ in names]
            true_facts = facts_of(house, names, states)
            for size in (1, 3, 6, 12, 40):
                told = draw.sample(true_facts, min(size, len(true_facts)))
                found = close(house.hues, told)
                self.assertTrue(set(told) <= set(found) <= set(true_facts))
                self.assertEqual(contradictions(house.hues, told), [])

    def test_all_facts_of_eight_names(self):
        told = [("rest", *pair, rest) for pair in product(NAMES, repeat=2) for rest in range(10)]
        told += [(word, *pair) for word in ("down", "apart", "same", "mirror") for pair in product(NAMES, repeat=2)]
        told += [(word, *names) for word in ("meet", "join") for names in product(NAMES, repeat=3)]
        self.assertEqual(close(10, told), sorted(told))
        self.assertEqual(len(contradictions(10, told)), 64 + 64 * 45)

    def test_a_circle_of_remainders(self):
        told = [("rest", NAMES[at], NAMES[(at + 1) % 8], 1) for at in range(8)]
        found = close(8, told)
        self.assertEqual(len([fact for fact in found if fact[0] == "rest"]), 64)
        self.assertEqual(contradictions(8, told), [])
        self.assertEqual(len([fact for fact in close(10, told) if fact[0] == "rest"]), 64 * 5)

    def test_lists_are_new(self):
        told = [("down", "a", "b"), ("apart", "a", "b")]
        for function in (close, contradictions):
            kept = function(2, told)
            function(2, told).clear()
            self.assertEqual(function(2, told), kept)
        self.assertEqual(told, [("down", "a", "b"), ("apart", "a", "b")])


class ContradictionsTest(FaultTest):
    """Point 86."""

    def test_contradicting_facts(self):
        told = [("down", "a", "b"), ("apart", "a", "b")]
        # From these two facts it follows that b is not reachable from itself, and neither is a.
        expected = [(("apart", name, other), ("down", name, other)) for name, other in ("aa", "ab", "bb")]
        self.assertEqual(contradictions(2, told), expected)
        told = [("rest", "a", "b", 2), ("rest", "a", "b", 0)]
        found = contradictions(4, told)
        self.assertIn((("rest", "a", "b", 0), ("rest", "a", "b", 2)), found)
        self.assertIn((("rest", "a", "a", 0), ("rest", "a", "a", 2)), found)
        self.assertIn((("apart", "a", "a"), ("down", "a", "a")), found)
        self.assertEqual(len(found), 6)

    def test_uneven_facts_of_equal_states(self):
        found = contradictions(3, [("same", "a", "b"), ("rest", "a", "b", 1)])
        self.assertIn((("apart", "a", "b"), ("down", "a", "b")), found)
        self.assertIn((("rest", "a", "b", 0), ("rest", "a", "b", 1)), found)

    def test_agree_with_the_closure(self):
        some = 0
        for hues, told in random_lists(22, 150):
            facts = close(hues, told)
            expected = []
            for pair in product(facts, repeat=2):
                first, second = pair
                if (first[0], second[0]) == ("apart", "down") and first[1:] == second[1:]:
                    expected.append(pair)
                if first[0] == "rest" and first[:3] == second[:3] and first[3] < second[3]:
                    expected.append(pair)
            self.assertEqual(contradictions(hues, told), sorted(expected))
            some += len(expected) > 0
        self.assertGreater(some, 20)


class DerivationTest(FaultTest):
    """Point 87."""

    def test_ordinary_derivation(self):
        told = [("down", "a", "b"), ("down", "b", "c")]
        steps = [(told[0], "told", ()), (told[1], "told", ()), (("down", "a", "c"), "chain", tuple(told))]
        self.assertEqual(derivation(3, told, ("down", "a", "c")), steps)
        self.assertIs(is_derivation(3, told, ("down", "a", "c"), steps), True)
        self.assertIsNone(derivation(3, told, ("down", "c", "a")))
        self.assertIsNone(derivation(3, told, ("down", "d", "d")))
        self.assertIsNone(derivation(3, [], ("down", "a", "a")))
        self.assertEqual(derivation(3, told, ("down", "c", "c")), [(("down", "c", "c"), "self", ())])
        self.assertEqual(derivation(3, told, told[1]), [(told[1], "told", ())])

    def test_every_fact_of_the_closure_has_a_derivation(self):
        for hues, told in random_lists(23, 60):
            facts = close(hues, told)
            for fact in facts:
                steps = derivation(hues, told, fact)
                self.assertIs(is_derivation(hues, told, fact, steps), True)
                self.assertTrue(is_derivation_by_hand(hues, told, fact, steps))
                self.assertIs(type(steps), list)
            for fact in [*random_facts(random.Random(1), hues, "ab", 20), ("down", "q", "q")]:
                self.assertEqual(derivation(hues, told, fact) is None, fact not in facts)

    def test_derivations_changed_in_one_place(self):
        told = [("meet", "a", "b", "c"), ("mirror", "a", "x"), ("mirror", "b", "x"), ("mirror", "c", "z")]
        told += [("rest", "a", "b", 1), ("same", "c", "d")]
        facts = close(3, told)
        judged = {True: 0, False: 0}
        for fact in facts[::3]:
            steps = derivation(3, told, fact)
            for changed in self.changed(steps, facts):
                expected = is_derivation_by_hand(3, told, fact, changed)
                self.assertIs(is_derivation(3, told, fact, changed), expected)
                judged[expected] += 1
        self.assertGreater(min(judged.values()), 100)

    def changed(self, steps, facts):
        """The steps with one left out, put in, changed or moved."""
        found = [steps[::-1], [*steps, *steps[-1:]], [*steps[-1:], *steps]]
        extra = [(("down", "a", "a"), "self", ()), (("mirror", "a", "x"), "told", ()), (("down", "q", "q"), "self", ())]
        for at, (fact, rule, premises) in enumerate(steps):
            before, behind = steps[:at], steps[at + 1:]
            found += [[*before, *behind], [*before, steps[at], steps[at], *behind], [*behind, steps[at], *before]]
            found += [[*before, step, steps[at], *behind] for step in extra]
            for other in (*facts[::5], ("down", "q", "a")):
                found.append([*before, (other, rule, premises), *behind])
                for place in range(len(premises)):
                    found.append([*before, (fact, rule, (*premises[:place], other, *premises[place + 1:])), *behind])
                found.append([*before, (fact, rule, (*premises, other)), *behind])
            found += [[*before, (fact, other, premises), *behind] for other in [*RULES, "told", "self"]]
            found += [[*before, (fact, rule, order), *behind] for order in permutations(premises)]
            found += [[*before, (fact, rule, premises[1:]), *behind]]
        return found

    def test_other_facts_than_the_last(self):
        told = [("down", "a", "b"), ("down", "b", "c")]
        steps = derivation(3, told, ("down", "a", "c"))
        for fact in [*right_facts(3), *close(3, told)]:
            self.assertIs(is_derivation(3, told, fact, steps), fact == ("down", "a", "c"))

    def test_steps_that_no_later_step_uses(self):
        told = [("down", "a", "b"), ("down", "b", "c")]
        steps = [(("down", "c", "c"), "self", ()), *derivation(3, told, ("down", "a", "c"))]
        self.assertIs(is_derivation(3, told, ("down", "a", "c"), steps), True)
        self.assertIs(is_derivation(3, told, ("down", "a", "c"), [*steps, (("rest", "a", "a", 0), "self", ())]), False)
        # A fact that is one of its own premises has no earlier step.
        step = (("down", "a", "a"), "chain", (("down", "a", "a"), ("down", "a", "a")))
        self.assertIs(is_derivation(3, told, ("down", "a", "a"), [step]), False)
        self.assertIs(is_derivation(3, told, ("down", "a", "a"), [(("down", "a", "a"), "self", ()), step]), False)

    def test_values_of_other_kinds(self):
        told = [("down", "a", "b"), ("down", "b", "c")]
        fact = ("down", "a", "c")
        steps = derivation(3, told, fact)
        loop = []
        loop.append(loop)
        for value in [None, True, 0, "", "told", (), [], {}, Unequal(), tuple(steps), {0: steps[0]}, [steps], loop]:
            self.assertIs(is_derivation(3, told, fact, value), False)
        for value in [None, True, 0, "", (), [], {}, Unequal(), list(steps[0]), steps[0][:2], (*steps[0], ()), loop]:
            for at in range(3):
                self.assertIs(is_derivation(3, told, fact, [*steps[:at], value, *steps[at + 1:]]), False)
        for value in [None, True, "told", [], list(steps[2][2]), Unequal(), (Unequal(),) * 2, steps[2][2][:1]]:
            self.assertIs(is_derivation(3, told, fact, [*steps[:2], (fact, "chain", value)]), False)
            self.assertIs(is_derivation(3, told, fact, [(told[0], "told", value), *steps[1:]]), False)
        for value in [None, True, b"chain", ["chain"], Unequal(), "Chain"]:
            self.assertIs(is_derivation(3, told, fact, [*steps[:2], (fact, value, steps[2][2])]), False)

    def test_facts_of_named_states(self):
        house = chain(2, 3)
        facts = facts_of(house, ["a", "b", "c"], [(1, 1), (0, 2), (1, 2)])
        for fact in facts:
            self.assertEqual(derivation(3, facts, fact), [(fact, "told", ())])
        told = [("meet", "a", "b", "c"), ("join", "a", "b", "a")]
        for fact in close(3, told):
            self.assertIs(is_derivation(3, told, fact, derivation(3, told, fact)), True)


class ChecksTest(FaultTest):
    """Points 4 and 84: the checks of the told facts and of the fact."""

    def test_told_facts(self):
        nine = [("down", name, name) for name in [*NAMES, "h"]]
        calls = [(close, ()), (contradictions, ()), (is_step, (None,))]
        calls += [(derivation, ("no fact",)), (is_derivation, ("no fact", None))]
        for function, rest in calls:
            for value in no_facts(3):
                if "Unequal" not in repr(value):
                    for told in ([value], [*nine, value, None], [value, *nine]):
                        self.assert_fault(InvalidFact, {"fact": value}, function, 3, told, *rest)
            self.assert_fault(InvalidFact, {"fact": ("rest", "a", "b", 2)}, function, 2, [("rest", "a", "b", 2)], *rest)
            self.assert_fault(TooMany, {"count": 9}, function, 3, nine, *rest)
            told = [("meet", *names) for names in ("abc", "def", "ghi", "jkl")]
            self.assert_fault(TooMany, {"count": 12}, function, 3, told, *rest)

    def test_the_fact(self):
        told = [("down", name, name) for name in NAMES]
        for value in no_facts(3):
            if "Unequal" not in repr(value):
                self.assert_fault(InvalidFact, {"fact": value}, derivation, 3, told, value)
                self.assert_fault(InvalidFact, {"fact": value}, is_derivation, 3, told, value, None)
        # The names of the fact are not counted.
        self.assertIsNone(derivation(3, told, ("down", "h", "h")))
        self.assertIs(is_derivation(3, told, ("down", "h", "h"), [(("down", "h", "h"), "self", ())]), False)

    def test_steps_have_any_names(self):
        told = [("down", name, name) for name in NAMES]
        step = (("down", "p", "r"), "chain", (("down", "p", "q"), ("down", "q", "r")))
        self.assertIs(is_step(3, told, step), True)

    def test_combinations_of_told_facts(self):
        some = [("down", "a", "b"), ("down", "b", "a"), ("apart", "b", "a")]
        some += [("mirror", "a", "b"), ("rest", "a", "b", 1)]
        for size in range(len(some) + 1):
            for told in combinations(some, size):
                self.assertEqual(close(2, list(told)), closed_by_hand(2, told))
