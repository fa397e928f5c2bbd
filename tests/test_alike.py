from collections import Counter
from itertools import permutations, product

from huefall.alike import is_alike, parting
from huefall.errors import InvalidHouse
from huefall.house import House
from huefall.kin import CarefulKin, CarefulWiredKin, Kin, WiredKin
from huefall.shapes import chain, hillside
from tests.helpers import FaultTest, all_houses, all_states

RULES = [Kin, CarefulKin, WiredKin, CarefulWiredKin]


def searched_pairs(rule):
    """All pairs of different states that single moves of the rule lead to, as a frozen set."""
    pairs = []
    for source in all_states(rule.house):
        found, waiting = {source}, [source]
        while waiting:
            state = waiting.pop()
            for lamp in range(rule.house.count):
                if rule.allowed(state, lamp) and rule.after(state, lamp) not in found:
                    found.add(rule.after(state, lamp))
                    waiting.append(rule.after(state, lamp))
        pairs += [(source, target) for target in found]
    return frozenset(pairs)


def parting_by_the_words(first, second, pairs):
    """The pair of point 69 and which of the three it is. `pairs` has what each rule reaches, by its id."""
    lamps = range(first.house.count)
    lamp = min(lamp for lamp in lamps if first.turned(lamp) != second.turned(lamp))
    source = tuple(int(other == lamp) for other in lamps)
    targets = first.after(source, lamp), second.after(source, lamp)
    if (source, targets[0]) not in pairs[id(second)]:
        return (source, targets[0]), "first"
    if (source, targets[1]) not in pairs[id(first)]:
        return (source, targets[1]), "second"
    return (targets[1], targets[0]), "both"


class AlikeTest(FaultTest):
    """Point 69."""

    def test_ordinary_rules(self):
        house = House(3, 2, [(0, 1), (1, 2)])
        closed = house.closed()
        self.assertIs(is_alike(Kin(house), CarefulKin(closed)), True)
        self.assertIsNone(parting(Kin(house), CarefulKin(closed)))
        self.assertIs(is_alike(WiredKin(closed), Kin(house)), True)
        self.assertIs(is_alike(WiredKin(house), CarefulWiredKin(house)), True)
        self.assertIs(is_alike(WiredKin(house), Kin(house)), False)
        self.assertEqual(parting(WiredKin(house), Kin(house)), ((1, 0, 0), (0, 1, 1)))

    def test_all_three_kinds_of_pairs(self):
        # The second rule does not reach the first target.
        first, second = Kin(House(3, 2, [(0, 1)])), Kin(House(3, 2, [(0, 2)]))
        self.assertEqual(parting(first, second), ((1, 0, 0), (0, 1, 0)))
        self.assertEqual(parting(second, first), ((1, 0, 0), (0, 0, 1)))
        # The second rule reaches the first target, the first rule does not reach the second one.
        first, second = Kin(House(2, 2)), Kin(House(2, 2, [(0, 1)]))
        self.assertEqual(parting(first, second), ((1, 0), (0, 1)))
        self.assertEqual(parting(second, first), ((1, 0), (0, 1)))
        # Both rules reach both targets.
        first, second = WiredKin(House(3, 2, [(0, 1), (1, 2)])), WiredKin(House(3, 2, [(0, 2), (2, 1)]))
        for rule in (first, second):
            self.assertTrue(rule.reaches((1, 0, 0), (0, 1, 0)) and rule.reaches((1, 0, 0), (0, 0, 1)))
        self.assertEqual(parting(first, second), ((0, 0, 1), (0, 1, 0)))
        self.assertEqual(parting(second, first), ((0, 1, 0), (0, 0, 1)))

    def test_agrees_with_search(self):
        for houses in (all_houses(3, 2), all_houses(2, 3), all_houses(3, 3)[::4]):
            rules = [rule(house) for house in houses for rule in RULES]
            pairs = {id(rule): searched_pairs(rule) for rule in rules}
            for first, second in product(rules, repeat=2):
                same = pairs[id(first)] == pairs[id(second)]
                self.assertIs(is_alike(first, second), same)
                found = parting(first, second)
                self.assertEqual(found is None, same)
                if found is not None:
                    self.assertNotEqual(found in pairs[id(first)], found in pairs[id(second)])

    def test_agrees_with_the_words(self):
        rules = [rule(house) for house in all_houses(3, 2) for rule in (Kin, CarefulWiredKin)]
        pairs = {id(rule): searched_pairs(rule) for rule in rules}
        kinds = Counter()
        for first, second in permutations(rules, 2):
            if not is_alike(first, second):
                expected, kind = parting_by_the_words(first, second, pairs)
                self.assertEqual(parting(first, second), expected)
                kinds[kind] += 1
        self.assertGreater(min(kinds["first"], kinds["second"], kinds["both"]), 0)

    def test_alike_exactly_if_they_turn_the_same_lamps(self):
        for first, second in product([rule(house) for house in all_houses(3, 2) for rule in RULES], repeat=2):
            same = [first.turned(lamp) for lamp in range(3)] == [second.turned(lamp) for lamp in range(3)]
            self.assertIs(is_alike(first, second), same)

    def test_houses_of_other_sizes(self):
        first = Kin(chain(3, 2))
        for function in (is_alike, parting):
            for rule in RULES:
                for house in (chain(2, 2), chain(4, 3), hillside(4, 4, 10)):
                    self.assert_fault(InvalidHouse, {"part": "count", "index": 1}, function, first, rule(house))
                for house in (chain(3, 3), House(3, 10)):
                    self.assert_fault(InvalidHouse, {"part": "hues", "index": 1}, function, first, rule(house))

    def test_a_house_of_16_lamps(self):
        house = hillside(4, 4, 10)
        self.assertIs(is_alike(Kin(house), CarefulKin(house.reduced())), True)
        self.assertIs(is_alike(WiredKin(house), CarefulKin(house)), False)
        source, target = parting(WiredKin(house), CarefulKin(house))
        self.assertNotEqual(WiredKin(house).reaches(source, target), CarefulKin(house).reaches(source, target))
