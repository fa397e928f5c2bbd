"""What several test files share: small houses, wrong values, and a check of errors."""

import unittest
from itertools import chain, combinations, permutations, product

from huefall import shapes
from huefall.errors import InvalidHouse, InvalidLamp, InvalidState, NotReachable
from huefall.house import House
from huefall.reach import obstacle

# None of these is a lamp, a count, a size or a number of anything.
NO_INTEGERS = [True, False, None, "0", "1", "", (0,), (1,), [0], [1], (), [], {}, 1.0, b"1"]


class Unequal:
    """A value that refuses to be compared."""

    def __eq__(self, other):
        raise RuntimeError


class FaultTest(unittest.TestCase):
    """A test case that can check the class and the attributes of an error."""

    def assert_fault(self, error, attributes, function, *args, **named):
        """The call raises exactly this class, with exactly these attributes.

        The words of the attributes are compared too, because True equals 1.
        """
        with self.assertRaises(error) as caught:
            function(*args, **named)
        self.assertIs(type(caught.exception), error)
        self.assertEqual(vars(caught.exception), attributes)
        self.assertEqual(repr(vars(caught.exception)), repr(attributes))

    def assert_checks_states(self, house, function, states, *rest, **named):
        """The call checks each of so many states, in their order and before all arguments behind them."""
        dark = (0,) * house.count
        for value in no_states(house):
            fault = {"state": value}
            for place in range(states):
                later = ["later"] * (states - place - 1)
                self.assert_fault(InvalidState, fault, function, house, *[dark] * place, value, *later, *rest, **named)

    def assert_needs_reachable(self, house, function, *rest, **named):
        """The call raises NotReachable with the obstacle for each pair of states that no run leads to."""
        for source, target in unreachable_pairs(house):
            fault = {"lamp": obstacle(house, source, target)}
            self.assert_fault(NotReachable, fault, function, house, source, target, *rest, **named)


class RuleTest(FaultTest):
    """A test case for rules of moves of the house of four lamps in which a move at lamp 2 turns others."""

    def assert_lists_are_new(self, rule):
        """What is done to a list that the rule returns has no effect on the rule."""
        calls = [lambda: rule.turned(2), lambda: rule.greatest((1, 1, 1, 1), (0, 0, 0, 0))]
        calls.append(lambda: rule.run((0, 0, 1, 0), (0, 0, 0, 0)))
        for call in calls:
            kept = call()
            call().clear()
            self.assertEqual(call(), kept)

    def assert_checks(self, rule, values):
        """The methods of the rule check lamps and states in their order; the values are no states."""
        for value in values:
            fault = {"state": value}
            for method in (rule.allowed, rule.after):
                self.assert_fault(InvalidState, fault, method, value, "no lamp")
            for method in (rule.greatest, rule.reaches, rule.run):
                self.assert_fault(InvalidState, fault, method, value, "later")
                self.assert_fault(InvalidState, fault, method, (0,) * 4, value)
            self.assert_fault(InvalidState, fault, rule.worth, value)
        for value in no_lamps(rule.house):
            for method in (rule.turned, rule.factor):
                self.assert_fault(InvalidLamp, {"lamp": value}, method, value)
            for method in (rule.allowed, rule.after):
                # All lamps are dark, so a later check would refuse the move instead.
                self.assert_fault(InvalidLamp, {"lamp": value}, method, (0,) * 4, value)


def all_houses(count, hues):
    """Every house with this number of lamps and hues."""
    pairs = list(permutations(range(count), 2))
    houses = []
    for wires in chain.from_iterable(combinations(pairs, size) for size in range(len(pairs) + 1)):
        try:
            houses.append(House(count, hues, wires))
        except InvalidHouse:
            pass
    return houses


def small_houses():
    """Every house of one to three lamps with two hues, and some with more of either."""
    houses = [*all_houses(1, 2), *all_houses(2, 2), *all_houses(3, 2), *all_houses(2, 3)]
    houses.append(House(1, 4))
    houses.append(House(3, 3, [(2, 0), (2, 1)]))
    houses.append(House(3, 3, [(0, 2), (2, 1)]))
    houses.append(House(4, 2, [(3, 1), (1, 0), (3, 2)]))
    houses.append(House(4, 2, [(0, 2), (1, 2), (1, 3)]))
    return houses


def all_states(house):
    """Every state of the house."""
    return list(product(range(house.hues), repeat=house.count))


def lamps_below(wires, lamp):
    """The lamps that paths of wires lead down to from the lamp, found by walking."""
    found = set()
    waiting = [lamp]
    while waiting:
        upper = waiting.pop()
        for above, lower in wires:
            if above == upper and lower not in found:
                found.add(lower)
                waiting.append(lower)
    return sorted(found)


def moves_from(house, state, careful):
    """The pairs of a lamp and the state after an allowed move at it, told from the wires alone."""
    found = []
    for lamp in range(house.count):
        below = lamps_below(house.wires, lamp)
        if state[lamp] == 0 or (careful and any(state[lower] for lower in below)):
            continue
        hues = list(state)
        hues[lamp] -= 1
        for lower in below:
            hues[lower] = hues[lower] - 1 if hues[lower] else house.hues - 1
        found.append((lamp, tuple(hues)))
    return found


def put_in_by_the_words(house, turned, source, counts, turn=None):
    """The normal run, word by word as point 42 tells it, if a move turns the lamps of its list.

    `turn(lamp, hue)` is the hue that a lamp has after it is turned, by default as in a free move.
    """
    turn = turn or (lambda lamp, hue: hue - 1 if hue > 0 else house.hues - 1)
    run = []
    for lamp in house.order():
        longer, hue, moves = [], source[lamp], 0
        for move in [None, *run]:
            if move is not None:
                longer.append(move)
                if lamp in turned[move]:
                    hue = turn(lamp, hue)
            while hue >= 1 and moves < counts[lamp]:
                longer.append(lamp)
                hue, moves = hue - 1, moves + 1
        run = longer
    return run


def no_values_of_a_tuple(right, wrong):
    """Values of another kind or length than the tuple, and the tuple with each wrong item in each place."""
    values = [None, True, 0, "", "0" * len(right), list(right), {}, (), (*right, right[0]), right[1:]]
    for place in range(len(right)):
        values += [(*right[:place], item, *right[place + 1:]) for item in wrong]
    return values


def searched(house, source, careful):
    """Every state that runs lead to from the source, found by making moves only."""
    found = {source}
    waiting = [source]
    while waiting:
        for _, state in moves_from(house, waiting.pop(), careful):
            if state not in found:
                found.add(state)
                waiting.append(state)
    return found


def reachable_pairs(house, careful=False):
    """All pairs of a source and a target that a run leads to."""
    return {(source, target) for source in all_states(house) for target in searched(house, source, careful)}


def unreachable_pairs(house):
    """All pairs of a source and a target that no run leads to."""
    pairs = reachable_pairs(house)
    return [pair for pair in product(all_states(house), repeat=2) if pair not in pairs]


def tallies_from(house, source):
    """All pairs of a state and the counts of a free run that leads to it."""
    found = {(source, (0,) * house.count)}
    waiting = list(found)
    while waiting:
        state, counts = waiting.pop()
        for lamp, other in moves_from(house, state, False):
            pair = (other, tuple(count + (at == lamp) for at, count in enumerate(counts)))
            if pair not in found:
                found.add(pair)
                waiting.append(pair)
    return found


def tallies_between(house):
    """For each pair of a source and a target that runs lead to, the ascending list of their counts."""
    found = {}
    for source in all_states(house):
        for target, counts in tallies_from(house, source):
            found.setdefault((source, target), []).append(counts)
    return {pair: sorted(tallies) for pair, tallies in found.items()}


def great_houses():
    """Houses of 16 lamps and 10 hues in which states cannot be gone through one by one."""
    return [House(16, 10), shapes.chain(16, 10), shapes.hillside(4, 4, 10), shapes.floors([4, 4, 4, 4], 10)]


def no_lamps(house):
    """Values that are not lamps of the house."""
    return [*NO_INTEGERS, -1, house.count, 10 ** 30]


def no_states(house):
    """Values that are not states of the house."""
    dark = (0,) * house.count
    values = [None, True, 0, "0" * house.count, list(dark), (), (0, *dark), dark[1:], {lamp: 0 for lamp in dark}]
    return values + [(*dark[1:], hue) for hue in [*NO_INTEGERS, -1, house.hues, 10 ** 30]]
