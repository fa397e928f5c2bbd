from itertools import product

from huefall.errors import DarkLamp, InvalidHouse, InvalidNumber, NotReachable, TooLong
from huefall.house import House
from huefall.kin import Kin
from huefall.otherkin import CoinKin, GainKin, MixedKin
from huefall.shapes import chain, floors, hillside
from huefall.states import bright_state, dark_state, is_state
from tests.helpers import (
    NO_INTEGERS,
    FaultTest,
    RuleTest,
    all_houses,
    all_states,
    great_houses,
    lamps_below,
    no_states,
    no_values_of_a_tuple,
    put_in_by_the_words,
    reachable_pairs,
    small_houses,
)

SMALL = small_houses()
# The order list is 2, 0, 3, 1.
LADDER = House(4, 3, [(2, 0), (0, 3), (3, 1)])


def rules_of(house):
    """Rules of each of the three labels for the house, every gain and several lists of sizes included."""
    rules = [GainKin(house, gain) for gain in range(1, house.hues)]
    rules.append(CoinKin(house))
    for sizes in ((2, 3, 4, 2), (3, 2, 2, 3), (2, 2, 2, 2), (4, 2, 3, 2)):
        rules.append(MixedKin(house, sizes[:house.count]))
    return rules


def turn_by_hand(rule):
    """The function from a lamp and its hue to the hue that it has after a move turns it."""
    if rule.LABEL == "gain":
        return lambda lamp, hue: (hue + rule.gain) % rule.house.hues
    if rule.LABEL == "coin":
        return lambda lamp, hue: hue + rule.house.hues - 1
    return lambda lamp, hue: hue - 1 if hue else rule.sizes[lamp] - 1


def moves_by_hand(rule, state):
    """The pairs of a lamp and the state after an allowed move of the rule at it, told from the wires alone."""
    turn, found = turn_by_hand(rule), []
    for lamp in range(rule.house.count):
        if state[lamp]:
            hues = list(state)
            hues[lamp] -= 1
            for lower in lamps_below(rule.house.wires, lamp):
                hues[lower] = turn(lower, hues[lower])
            found.append((lamp, tuple(hues)))
    return found


def tallies_by_hand(rule, source):
    """For each state that moves lead to from the source, the set of the counts of the runs to it."""
    found = {source: {(0,) * rule.house.count}}
    waiting = [(source, (0,) * rule.house.count)]
    while waiting:
        state, counts = waiting.pop()
        for lamp, other in moves_by_hand(rule, state):
            further = (*counts[:lamp], counts[lamp] + 1, *counts[lamp + 1:])
            if further not in found.setdefault(other, set()):
                found[other].add(further)
                waiting.append((other, further))
    return found


def states_of(rule):
    """All states of the rule, or of the coin rule those with small heaps."""
    if rule.LABEL == "mixed":
        return list(product(*[range(size) for size in rule.sizes]))
    if rule.LABEL == "coin" and rule.house.count < 3:
        return list(product(range(rule.house.hues + 2), repeat=rule.house.count))
    return all_states(rule.house)


class RulesTest(RuleTest):
    """Points 63 and 64."""

    def test_labels_and_classes(self):
        rules = [GainKin(LADDER, 1), CoinKin(LADDER), MixedKin(LADDER, [2, 2, 2, 2])]
        self.assertEqual([rule.LABEL for rule in rules], ["gain", "coin", "mixed"])
        for rule in rules:
            self.assertEqual(type(rule).__bases__, (Kin,))
            self.assertIs(rule.house, LADDER)

    def test_attributes(self):
        self.assertEqual(GainKin(LADDER, 2).gain, 2)
        self.assertEqual(MixedKin(LADDER, [2, 10, 3, 4]).sizes, (2, 10, 3, 4))
        self.assertEqual(MixedKin(LADDER, (2, 10, 3, 4)).sizes, (2, 10, 3, 4))
        sizes = [2, 3, 4, 5]
        rule = MixedKin(LADDER, sizes)
        sizes[0] = 9
        self.assertEqual((rule.sizes, rule.factor(0)), ((2, 3, 4, 5), 1))

    def test_turned_lamps_and_factors(self):
        for house in [*SMALL, LADDER, hillside(3, 4, 10)]:
            rules = rules_of(house) if house.count < 5 else [GainKin(house, 4), CoinKin(house)]
            for rule in rules:
                for lamp in range(house.count):
                    self.assertEqual(rule.turned(lamp), lamps_below(house.wires, lamp))
                    factors = {"gain": getattr(rule, "gain", 0), "coin": house.hues - 1}
                    factors["mixed"] = getattr(rule, "sizes", [1] * house.count)[lamp] - 1
                    self.assertEqual(rule.factor(lamp), factors[rule.LABEL])

    def test_moves(self):
        self.assertEqual(GainKin(LADDER, 1).after((0, 1, 2, 2), 2), (1, 2, 1, 0))
        self.assertEqual(GainKin(LADDER, 2).after((0, 1, 2, 2), 2), (2, 0, 1, 1))
        self.assertEqual(CoinKin(LADDER).after((0, 7, 1, 30), 2), (2, 9, 0, 32))
        self.assertEqual(CoinKin(LADDER).after((10 ** 30, 0, 0, 0), 0), (10 ** 30 - 1, 2, 0, 2))
        self.assertEqual(MixedKin(LADDER, [2, 10, 3, 4]).after((0, 0, 1, 2), 2), (1, 9, 0, 1))

    def test_moves_agree_with_moves_made_by_hand(self):
        for house in SMALL:
            for rule in rules_of(house):
                for state in states_of(rule):
                    moves = dict(moves_by_hand(rule, state))
                    for lamp in range(house.count):
                        self.assertIs(rule.allowed(state, lamp), lamp in moves)
                        if lamp in moves:
                            self.assertEqual(rule.after(state, lamp), moves[lamp])
                        else:
                            self.assert_fault(DarkLamp, {"lamp": lamp, "step": 0}, rule.after, state, lamp)

    def test_the_greatest_gain_is_the_free_rule(self):
        for house in [House(1, 2), chain(3, 2), LADDER]:
            rule, free = GainKin(house, house.hues - 1), Kin(house)
            for source in all_states(house):
                self.assertEqual(rule.worth(source), free.worth(source))
                for lamp in range(house.count):
                    if source[lamp]:
                        self.assertEqual(rule.after(source, lamp), free.after(source, lamp))
                for target in all_states(house)[::3]:
                    self.assertEqual(rule.greatest(source, target), free.greatest(source, target))
                    if free.reaches(source, target):
                        self.assertEqual(rule.run(source, target), free.run(source, target))

    def test_is_state_of_the_gain_rule(self):
        for value in [*no_states(LADDER), (0, 1, 2, 0), dark_state(LADDER), bright_state(LADDER)]:
            self.assertIs(GainKin(LADDER, 1).is_state(value), is_state(LADDER, value))

    def test_is_state_of_the_coin_rule(self):
        rule = CoinKin(LADDER)
        for value in no_values_of_a_tuple((0, 1, 2, 30), [*NO_INTEGERS, -1]):
            self.assertIs(rule.is_state(value), False)
        for value in [(0, 1, 2, 3), (0,) * 4, (10, 11, 10 ** 30, 3)]:
            self.assertIs(rule.is_state(value), True)

    def test_is_state_of_the_mixed_rule(self):
        rule = MixedKin(LADDER, [2, 10, 3, 4])
        for value in no_values_of_a_tuple((0, 1, 2, 3), [*NO_INTEGERS, -1, 10, 10 ** 30]):
            self.assertIs(rule.is_state(value), False)
        for value in [(2, 0, 0, 0), (0, 0, 3, 0), (0, 0, 0, 4)]:
            self.assertIs(rule.is_state(value), False)
        for value in [(1, 9, 2, 3), (0,) * 4, (0, 5, 0, 3)]:
            self.assertIs(rule.is_state(value), True)

    def test_values_that_are_no_states_or_lamps(self):
        for rule in rules_of(LADDER):
            # A heap of 10 coins is right.
            wrong = [*NO_INTEGERS, -1] if rule.LABEL == "coin" else [*NO_INTEGERS, -1, 10]
            self.assert_checks(rule, no_values_of_a_tuple((0, 1, 1, 0), wrong))

    def test_gains(self):
        for hues in (2, 3, 10):
            house = chain(2, hues)
            for gain in (1, hues - 1):
                self.assertEqual(GainKin(house, gain).gain, gain)
            for value in [*NO_INTEGERS, 0, -1, hues, 10 ** 30]:
                self.assert_fault(InvalidNumber, {"number": value}, GainKin, house, value)

    def test_sizes(self):
        house = chain(3, 2)
        self.assertEqual(MixedKin(house, [2, 10, 2]).sizes, (2, 10, 2))
        for sizes in ([], (), [2, 2], (2, 2, 2, 2), [1, 1], None, 3, "222", {0: 2, 1: 2, 2: 2}):
            self.assert_fault(InvalidHouse, {"part": "count", "index": 0}, MixedKin, house, sizes)
        for index in range(3):
            for wrong in [*NO_INTEGERS, 1, 0, -2, 11, 10 ** 30]:
                sizes = [2] * index + [wrong] + [True] * (2 - index)
                for value in (sizes, tuple(sizes)):
                    self.assert_fault(InvalidHouse, {"part": "size", "index": index}, MixedKin, house, value)

    def test_lists_are_new(self):
        for rule in rules_of(LADDER):
            self.assert_lists_are_new(rule)


class GreatestTest(FaultTest):
    """Points 65 and 68."""

    def test_ordinary_counts(self):
        self.assertEqual(GainKin(LADDER, 1).greatest((0, 0, 1, 0), (0, 0, 0, 0)), [1, 4, 1, 2])
        self.assertEqual(GainKin(LADDER, 2).greatest((0, 0, 1, 0), (0, 0, 0, 0)), [2, 18, 1, 6])
        self.assertEqual(CoinKin(LADDER).greatest((5, 0, 1, 0), (0, 0, 0, 3)), [7, 42, 1, 13])
        self.assertEqual(MixedKin(LADDER, [2, 10, 3, 4]).greatest((0, 0, 1, 0), (0, 0, 0, 0)), [1, 72, 1, 6])

    def test_negative_counts_enter_the_sums_as_they_are(self):
        self.assertEqual(GainKin(LADDER, 1).greatest((2, 2, 0, 2), (0, 0, 1, 0)), [1, 4, -1, 2])
        self.assertEqual(CoinKin(LADDER).greatest((0, 0, 0, 0), (0, 0, 1, 0)), [-2, -18, -1, -6])
        self.assertEqual(MixedKin(LADDER, [2, 2, 3, 2]).greatest((0, 1, 0, 1), (0, 0, 2, 0)), [-2, -6, -2, -3])

    def test_agree_with_runs_made_by_hand(self):
        for house in SMALL:
            for rule in rules_of(house):
                for source in states_of(rule):
                    self.check_runs_by_hand(rule, source)

    def check_runs_by_hand(self, rule, source):
        tallies = tallies_by_hand(rule, source)
        for target in [*states_of(rule), *tallies]:
            greatest = tuple(rule.greatest(source, target))
            self.assertIs(rule.reaches(source, target), target in tallies)
            self.assertEqual(min(greatest) >= 0, target in tallies)
            if target in tallies:
                self.assertEqual(tuple(max(counts) for counts in zip(*tallies[target])), greatest)
                self.assertIn(greatest, tallies[target])
                if rule.LABEL == "coin":
                    self.assertEqual(tallies[target], {greatest})

    def test_the_mixed_rule_reaches_by_topmost_differences(self):
        for house in [*SMALL, LADDER]:
            for rule in [rule for rule in rules_of(house) if rule.LABEL == "mixed"]:
                for source in states_of(rule):
                    for target in states_of(rule):
                        differing = [lamp for lamp in range(house.count) if source[lamp] != target[lamp]]
                        beneath = [lower for lamp in differing for lower in lamps_below(house.wires, lamp)]
                        topmost = [lamp for lamp in differing if lamp not in beneath]
                        brighter = all(source[lamp] > target[lamp] for lamp in topmost)
                        self.assertIs(rule.reaches(source, target), brighter)

    def test_the_coin_rule_reaches_what_the_free_rule_reaches(self):
        for house in [*SMALL, *all_houses(4, 2)[::29]]:
            pairs = reachable_pairs(house)
            for pair in product(all_states(house), repeat=2):
                self.assertIs(CoinKin(house).reaches(*pair), pair in pairs)

    def test_the_gain_rule_reaches_less(self):
        house = chain(2, 3)
        self.assertTrue(GainKin(house, 2).reaches((1, 0), (0, 2)))
        self.assertFalse(GainKin(house, 1).reaches((1, 0), (0, 2)))
        self.assertTrue(GainKin(house, 1).reaches((1, 0), (0, 1)))

    def test_great_houses(self):
        for house in great_houses():
            dark, bright = dark_state(house), bright_state(house)
            for rule in (GainKin(house, 1), GainKin(house, 9), CoinKin(house), MixedKin(house, [10, 2] * 8)):
                source = tuple(min(9, rule.factor(lamp)) for lamp in range(16))
                self.assertEqual(rule.greatest(source, source), [0] * 16)
                self.assertIs(rule.reaches(source, dark), True)
                self.assertIs(rule.reaches(dark, source), False)
            self.assertEqual(CoinKin(house).greatest(bright, dark), Kin(house).greatest(bright, dark))
        counts = [9 * 2 ** max(0, lamp - 1) + 9 * 2 ** (lamp - 1) if lamp else 9 for lamp in range(16)]
        self.assertEqual(GainKin(chain(16, 10), 1).greatest((9,) * 16, (0,) * 16), counts)


class RunTest(FaultTest):
    """Point 66."""

    def test_ordinary_runs(self):
        self.assertEqual(GainKin(chain(2, 3), 1).run((2, 0), (0, 0)), [0, 1, 0, 1])
        self.assertEqual(GainKin(chain(2, 3), 1).run((2, 0), (0, 1)), [0, 1, 0])
        self.assertEqual(CoinKin(chain(2, 3)).run((1, 4), (0, 1)), [1, 1, 1, 1, 0, 1])
        self.assertEqual(MixedKin(chain(2, 2), [2, 4]).run((1, 2), (0, 0)), [1, 1, 0, 1, 1, 1])

    def test_runs_are_allowed_and_have_the_greatest_counts(self):
        for house in SMALL:
            for rule in rules_of(house):
                for source in states_of(rule):
                    for target in states_of(rule):
                        if rule.reaches(source, target):
                            self.check_run(rule, source, target)

    def check_run(self, rule, source, target):
        run = rule.run(source, target, limit=10 ** 4)
        self.assertIs(type(run), list)
        greatest = rule.greatest(source, target)
        self.assertEqual([run.count(lamp) for lamp in range(rule.house.count)], greatest)
        turned = [lamps_below(rule.house.wires, lamp) for lamp in range(rule.house.count)]
        self.assertEqual(run, put_in_by_the_words(rule.house, turned, source, greatest, turn_by_hand(rule)))
        state = source
        for lamp in run:
            self.assertTrue(rule.allowed(state, lamp))
            self.assertEqual(rule.after(state, lamp), dict(moves_by_hand(rule, state))[lamp])
            state = rule.after(state, lamp)
        self.assertEqual(state, target)

    def test_great_heaps(self):
        rule = CoinKin(chain(2, 10))
        self.check_run(rule, (20, 300), (3, 11))
        self.assert_fault(NotReachable, {"lamp": 0}, rule.run, (10 ** 30, 0), (10 ** 30 + 1, 0))
        self.assert_fault(TooLong, {"length": 10 ** 31 - 5}, rule.run, (10 ** 30, 0), (0, 5))
        self.assertTrue(rule.reaches((1, 0), (0, 9)))
        self.assertFalse(rule.reaches((1, 0), (0, 10)))

    def test_a_house_of_16_lamps(self):
        house = floors([4, 4, 4, 4], 10)
        source = (0,) * 7 + (1,) + (0,) * 8
        for rule in (GainKin(house, 1), GainKin(house, 9), CoinKin(house), MixedKin(house, [2, 3] * 8)):
            self.check_run(rule, source, dark_state(house))

    def test_not_reachable_with_the_first_lamp_of_the_order_list(self):
        # The order list is 1, 2, 0.
        house = House(3, 2, [(2, 0)])
        for rule in (GainKin(house, 1), CoinKin(house), MixedKin(house, [2, 2, 2])):
            for target, lamp in (((1, 0, 1), 2), ((1, 1, 1), 1), ((0, 1, 0), 1), ((1, 0, 0), 0)):
                self.assert_fault(NotReachable, {"lamp": lamp}, rule.run, (0, 0, 0), target, limit=0)

    def test_limit(self):
        house = chain(3, 3)
        for rule in (GainKin(house, 1), CoinKin(house), MixedKin(house, [2, 3, 2])):
            length = sum(rule.greatest((1, 1, 1), (0, 0, 0)))
            self.assertEqual(len(rule.run((1, 1, 1), (0, 0, 0), limit=length)), length)
            self.assert_fault(TooLong, {"length": length}, rule.run, (1, 1, 1), (0, 0, 0), limit=length - 1)
            self.assertEqual(rule.run((1, 1, 1), (1, 1, 1), limit=0), [])

    def test_default_limit(self):
        house = chain(1, 2)
        self.assertEqual(CoinKin(house).run((1000,), (0,)), [0] * 1000)
        self.assert_fault(TooLong, {"length": 1001}, CoinKin(house).run, (1001,), (0,))
        house = chain(4, 10)
        self.assertEqual(len(MixedKin(house, [10] * 4).run((1, 0, 0, 0), (0, 0, 0, 0))), 1000)
        self.assert_fault(TooLong, {"length": 1001}, MixedKin(house, [10] * 4).run, (1, 0, 0, 1), (0, 0, 0, 0))


class WorthTest(FaultTest):
    """Point 67."""

    def test_ordinary_worth(self):
        self.assertEqual(GainKin(LADDER, 1).worth((1, 0, 0, 2)), 4 + 2 * 2)
        self.assertEqual(CoinKin(LADDER).worth((1, 10 ** 30, 0, 20)), 9 + 10 ** 30 + 60)
        # The weights are 1 at lamp 1, 10 at lamp 3, 1 + 9 + 30 at lamp 0 and 1 + 9 + 30 + 40 at lamp 2.
        rule = MixedKin(LADDER, [2, 10, 3, 4])
        self.assertEqual([rule.worth(state) for state in ((1, 0, 0, 0), (0, 9, 0, 0), (0, 0, 2, 0))], [40, 9, 160])
        self.assertEqual(rule.worth((0, 0, 0, 3)), 30)

    def test_moves_lower_the_worth(self):
        for house in SMALL:
            for rule in rules_of(house):
                for state in states_of(rule):
                    for lamp, other in moves_by_hand(rule, state):
                        loss = rule.worth(state) - rule.worth(other)
                        self.assertGreaterEqual(loss, 1)
                        if rule.LABEL == "coin":
                            self.assertEqual(loss, 1)

    def test_sum_of_the_greatest_counts(self):
        for house in [*SMALL, LADDER]:
            for rule in rules_of(house):
                worths = {state: rule.worth(state) for state in states_of(rule)}
                for source in list(worths)[::3]:
                    for target in worths:
                        self.assertEqual(sum(rule.greatest(source, target)), worths[source] - worths[target])
