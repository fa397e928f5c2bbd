import random
from itertools import product

from huefall.closing import close
from huefall.errors import InvalidFact, InvalidState, TooMany
from huefall.facts import MOST_NAMES, facts_of, is_fact, names_in
from huefall.house import House
from huefall.lattice import join, meet
from huefall.lengths import worth
from huefall.reach import is_reachable
from huefall.shapes import chain, floors, hillside
from huefall.states import mirror, state_of
from tests.helpers import NO_INTEGERS, FaultTest, Unequal, all_houses, all_states, no_states, small_houses

NAMES = ["a", "b", "cc", "d", "e", "ff", "g", "zzzzzzzz"]
WORDS = {"down": 2, "apart": 2, "same": 2, "mirror": 2, "rest": 2, "meet": 3, "join": 3}
NO_NAMES = ["", "A", "aB", "abcdefghi", "z" * 5000, "a ", " a", "a1", "1", "a_b", "-", "a\n", "`", "{"]
NO_NAMES += ["\u00e9", "\u00aa", "\u0430", None, True, 0, b"a", ("a",), ["a"], {}, 1.0]


def right_facts(hues):
    """Facts of every word."""
    facts = [(word, *names) for word in ("down", "apart", "same", "mirror") for names in (("a", "b"), ("ab", "ab"))]
    facts += [(word, *names) for word in ("meet", "join") for names in (("x", "y", "z"), ("q", "q", "q"))]
    return facts + [("rest", "a", "zzzzzzzz", rest) for rest in range(hues)]


def no_facts(hues):
    """Values that are not facts."""
    values = [None, True, 0, "down", "", [], (), {}, ["down", "a", "b"], ("down",), (None, "a", "b"), Unequal()]
    values += [("Down", "a", "b"), ("up", "a", "b"), ("self", "a", "a"), ("", "a", "b"), (["down"], "a", "b")]
    values += [(Unequal(), "a", "b"), ("down", Unequal(), "b"), ("rest", "a", "b", Unequal()), (b"down", "a", "b")]
    for word, count in WORDS.items():
        end = (0,) if word == "rest" else ()
        for other in (count - 2, count - 1, count + 1):
            values.append((word, *["a"] * other, *end))
        for place in range(count):
            for name in NO_NAMES:
                names = ["a"] * count
                names[place] = name
                values.append((word, *names, *end))
        if word != "rest":
            values += [(word, *["a"] * count, 0), (word, *["a"] * count, None)]
    values += [("rest", "a", "b"), ("rest", "a", "b", 0, 0), ("rest", 0, "a", "b"), ("rest", "a", "b", hues)]
    return values + [("rest", "a", "b", rest) for rest in [*NO_INTEGERS, -1, 10 ** 30]]


def facts_by_the_words(house, names, states):
    """All facts of point 84 that are true of the named states."""
    named = list(zip(names, states))
    found = []
    for (a, first), (b, second) in product(named, repeat=2):
        found.append(("down" if is_reachable(house, first, second) else "apart", a, b))
        found += [("same", a, b)] if first == second else []
        found += [("mirror", a, b)] if mirror(house, first) == second else []
        found.append(("rest", a, b, (worth(house, first) - worth(house, second)) % house.hues))
        for c, third in named:
            found += [("meet", a, b, c)] if meet(house, first, second) == third else []
            found += [("join", a, b, c)] if join(house, first, second) == third else []
    return sorted(found)


class FactsTest(FaultTest):
    """Point 84."""

    def test_facts(self):
        for hues in (2, 3, 10):
            for fact in right_facts(hues):
                self.assertIs(is_fact(hues, fact), True)
            for value in no_facts(hues):
                self.assertIs(is_fact(hues, value), False)

    def test_remainders(self):
        for hues in range(2, 11):
            found = [rest for rest in range(-2, 12) if is_fact(hues, ("rest", "a", "b", rest))]
            self.assertEqual(found, list(range(hues)))

    def test_names_in(self):
        self.assertEqual(names_in(3, []), [])
        told = [("down", "b", "a"), ("rest", "c", "b", 2), ("meet", "abc", "a", "ab")]
        self.assertEqual(names_in(3, told), ["a", "ab", "abc", "b", "c"])
        self.assertEqual(names_in(2, [("same", "x", "x"), ("same", "x", "x")]), ["x"])
        names_in(3, told).clear()
        self.assertEqual(names_in(3, told), ["a", "ab", "abc", "b", "c"])
        self.assertEqual(told, [("down", "b", "a"), ("rest", "c", "b", 2), ("meet", "abc", "a", "ab")])

    def test_eight_and_nine_names(self):
        self.assertEqual(MOST_NAMES, 8)
        told = [("down", name, name) for name in NAMES]
        self.assertEqual(names_in(2, told), sorted(NAMES))
        told += [("apart", "a", "h"), ("apart", "b", "h")]
        self.assert_fault(TooMany, {"count": 9}, names_in, 2, told)
        told = [("meet", *"abc"), ("meet", *"def"), ("join", *"ghi"), ("join", *"jkl")]
        self.assert_fault(TooMany, {"count": 12}, names_in, 2, told)

    def test_the_first_value_that_is_not_a_fact(self):
        # There are too many names, too, but this is told later.
        nine = [("down", name, name) for name in [*NAMES, "h"]]
        for value in no_facts(3):
            if not isinstance(value, Unequal) and "Unequal" not in repr(value):
                for told in ([value], [*nine, value, None], [value, *nine], [("same", "a", "b"), value, "later"]):
                    self.assert_fault(InvalidFact, {"fact": value}, names_in, 3, told)
        for value in (("rest", "a", "b", 2), ("rest", "a", "b", True)):
            self.assert_fault(InvalidFact, {"fact": value}, names_in, 2, [*nine, value])


class FactsOfTest(FaultTest):
    """Point 88."""

    def test_ordinary_states(self):
        house = floors([2, 1], 2)
        found = facts_of(house, ["a", "b"], [(1, 0, 0), (0, 1, 1)])
        expected = [("apart", "a", "b"), ("apart", "b", "a"), ("down", "a", "a"), ("down", "b", "b")]
        expected += [("join", "a", "a", "a"), ("join", "b", "b", "b"), ("meet", "a", "a", "a"), ("meet", "b", "b", "b")]
        expected += [("mirror", "a", "b"), ("mirror", "b", "a"), ("rest", "a", "a", 0), ("rest", "a", "b", 1)]
        expected += [("rest", "b", "a", 1), ("rest", "b", "b", 0), ("same", "a", "a"), ("same", "b", "b")]
        self.assertEqual(found, expected)
        self.assertIs(type(found), list)

    def test_meets_and_joins(self):
        house = floors([2, 1], 2)
        found = facts_of(house, ["z", "y", "x"], [(1, 0, 0), (0, 1, 1), (0, 0, 1)])
        self.assertIn(("meet", "z", "y", "x"), found)
        self.assertIn(("meet", "y", "z", "x"), found)
        self.assertNotIn(("join", "z", "y", "x"), found)
        self.assertIn(("join", "x", "z", "z"), found)

    def test_agree_with_the_words(self):
        draw = random.Random(2)
        for house in [*small_houses(), *all_houses(4, 2)[::97], hillside(2, 3, 10)]:
            for size in (1, 2, 3, 4):
                names = draw.sample(NAMES, size)
                states = [state_of(house, draw.randrange(house.hues ** house.count)) for _ in range(size)]
                self.assertEqual(facts_of(house, names, states), facts_by_the_words(house, names, states))

    def test_their_closure_is_the_same_list(self):
        draw = random.Random(4)
        for house in small_houses():
            for size in (1, 3, 5):
                names = draw.sample(NAMES, size)
                states = [state_of(house, draw.randrange(house.hues ** house.count)) for _ in range(size)]
                found = facts_of(house, names, states)
                self.assertEqual(close(house.hues, found), found)
        for house in (hillside(4, 4, 10), chain(2, 3), chain(3, 2)):
            states = [state_of(house, draw.randrange(house.hues ** house.count)) for _ in range(8)]
            found = facts_of(house, NAMES, states)
            self.assertEqual(close(house.hues, found), found)

    def test_eight_names_of_one_state(self):
        house = chain(1, 3)
        found = facts_of(house, NAMES, [(1,)] * 8)
        self.assertEqual(len(found), 4 * 64 + 2 * 512)
        self.assertEqual(close(3, found), found)

    def test_all_states_of_a_house(self):
        house = House(3, 2, [(0, 1), (2, 1)])
        found = facts_of(house, NAMES, all_states(house))
        self.assertEqual(found, facts_by_the_words(house, NAMES, all_states(house)))
        self.assertEqual(close(2, found), found)
        self.assertEqual(len([fact for fact in found if fact[0] == "meet"]), 64)

    def test_no_names(self):
        self.assertEqual(facts_of(chain(2, 2), [], []), [])

    def test_values_that_are_no_states(self):
        house = chain(3, 2)
        for value in no_states(house):
            for states in ([value], [(0, 0, 0), value, None], [(1, 1, 1), (0, 0, 1), value]):
                names = NAMES[:len(states)]
                self.assert_fault(InvalidState, {"state": value}, facts_of, house, names, states)

    def test_arguments_are_not_changed(self):
        house, names, states = chain(2, 2), ["b", "a"], [(1, 0), (0, 1)]
        facts_of(house, names, states).clear()
        self.assertEqual((names, states), (["b", "a"], [(1, 0), (0, 1)]))
