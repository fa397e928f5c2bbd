from huefall.building import careful_run
from huefall.errors import DarkLamp, LitBeneath, NotReachable, TooLong
from huefall.house import House
from huefall.kin import CarefulKin, CarefulWiredKin, Kin, WiredKin
from huefall.lengths import greatest_tally, longest_run, worth
from huefall.shapes import chain, floors, hillside
from huefall.states import bright_state, dark_state, is_state
from tests.helpers import (
    FaultTest,
    RuleTest,
    all_houses,
    all_states,
    great_houses,
    lamps_below,
    no_states,
    put_in_by_the_words,
    reachable_pairs,
    small_houses,
)

RULES = [Kin, CarefulKin, WiredKin, CarefulWiredKin]
CAREFUL = [CarefulKin, CarefulWiredKin]
WIRED = [WiredKin, CarefulWiredKin]
SMALL = [*small_houses(), *all_houses(4, 2)[::29]]
# A chain with lamps that are beneath and not directly beneath.
LADDER = House(4, 3, [(2, 0), (0, 3), (3, 1)])


def turned_by_hand(rule, lamp):
    """The lamps that a move turns, told from the wires alone."""
    if type(rule) in WIRED:
        return sorted(lower for upper, lower in rule.house.wires if upper == lamp)
    return lamps_below(rule.house.wires, lamp)


def moves_by_hand(rule, state):
    """The pairs of a lamp and the state after an allowed move of the rule at it."""
    found = []
    for lamp in range(rule.house.count):
        turned = turned_by_hand(rule, lamp)
        if state[lamp] and not (type(rule) in CAREFUL and any(state[lower] for lower in turned)):
            hues = list(state)
            hues[lamp] -= 1
            for lower in turned:
                hues[lower] = hues[lower] - 1 if hues[lower] else rule.house.hues - 1
            found.append((lamp, tuple(hues)))
    return found


def tallies_by_hand(rule, source):
    """All pairs of a state and the counts of a run of the rule that leads to it."""
    found = {(source, (0,) * rule.house.count)}
    waiting = list(found)
    while waiting:
        state, counts = waiting.pop()
        for lamp, other in moves_by_hand(rule, state):
            pair = (other, (*counts[:lamp], counts[lamp] + 1, *counts[lamp + 1:]))
            if pair not in found:
                found.add(pair)
                waiting.append(pair)
    return found


def counts_of(rule, run):
    return [run.count(lamp) for lamp in range(rule.house.count)]


class RulesTest(RuleTest):
    """Points 63 and 64."""

    def test_labels_and_classes(self):
        labels = ["free", "careful", "wired", "careful wired"]
        self.assertEqual([rule.LABEL for rule in RULES], labels)
        self.assertEqual([rule(LADDER).LABEL for rule in RULES], labels)
        self.assertEqual((Kin.__bases__, CarefulKin.__bases__, WiredKin.__bases__), ((object,), (Kin,), (Kin,)))
        self.assertEqual(CarefulWiredKin.__bases__, (CarefulKin, WiredKin))

    def test_house(self):
        for rule in RULES:
            self.assertIs(rule(LADDER).house, LADDER)

    def test_turned_lamps_and_factors(self):
        free, wired = [[1, 3], [], [0, 1, 3], [1]], [[3], [], [0], [1]]
        for rule, turned in zip(RULES, [free, free, wired, wired]):
            self.assertEqual([rule(LADDER).turned(lamp) for lamp in range(4)], turned)
            self.assertEqual([rule(LADDER).factor(lamp) for lamp in range(4)], [2] * 4)
            for house in SMALL:
                made = rule(house)
                for lamp in range(house.count):
                    self.assertEqual(made.turned(lamp), turned_by_hand(made, lamp))
                    self.assertEqual(made.factor(lamp), house.hues - 1)

    def test_lists_are_new(self):
        for rule in RULES:
            self.assert_lists_are_new(rule(LADDER))

    def test_is_state(self):
        for rule in RULES:
            for value in [*no_states(LADDER), (0, 1, 2, 0), dark_state(LADDER), bright_state(LADDER)]:
                self.assertIs(rule(LADDER).is_state(value), is_state(LADDER, value))

    def test_moves(self):
        state = (1, 0, 2, 1)
        self.assertEqual(Kin(LADDER).after(state, 2), (0, 2, 1, 0))
        self.assertEqual(WiredKin(LADDER).after(state, 2), (0, 0, 1, 1))
        self.assertEqual(CarefulKin(LADDER).after((0, 0, 2, 0), 2), (2, 2, 1, 2))
        self.assertEqual(CarefulWiredKin(LADDER).after((0, 0, 2, 1), 2), (2, 0, 1, 1))

    def test_moves_agree_with_moves_made_by_hand(self):
        for rule in RULES:
            for house in SMALL:
                made = rule(house)
                for state in all_states(house):
                    moves = dict(moves_by_hand(made, state))
                    for lamp in range(house.count):
                        self.assertIs(made.allowed(state, lamp), lamp in moves)
                        if lamp in moves:
                            self.assertEqual(made.after(state, lamp), moves[lamp])
                        elif state[lamp] == 0:
                            self.assert_fault(DarkLamp, {"lamp": lamp, "step": 0}, made.after, state, lamp)
                        else:
                            lower = min(other for other in turned_by_hand(made, lamp) if state[other])
                            fault = {"lamp": lamp, "step": 0, "lower": lower}
                            self.assert_fault(LitBeneath, fault, made.after, state, lamp)

    def test_refused_moves(self):
        state = (0, 1, 1, 1)
        fault = {"lamp": 2, "step": 0, "lower": 1}
        self.assert_fault(LitBeneath, fault, CarefulKin(LADDER).after, state, 2)
        self.assertEqual(CarefulWiredKin(LADDER).after(state, 2), (2, 1, 0, 1))
        fault = {"lamp": 3, "step": 0, "lower": 1}
        self.assert_fault(LitBeneath, fault, CarefulWiredKin(LADDER).after, state, 3)
        for rule in RULES:
            self.assert_fault(DarkLamp, {"lamp": 0, "step": 0}, rule(LADDER).after, state, 0)

    def test_values_that_are_no_states_or_lamps(self):
        for rule in RULES:
            self.assert_checks(rule(LADDER), no_states(LADDER))


class GreatestTest(FaultTest):
    """Points 65 and 68."""

    def test_ordinary_counts(self):
        self.assertEqual(Kin(LADDER).greatest((0, 0, 1, 0), (0, 0, 0, 0)), [2, 18, 1, 6])
        self.assertEqual(CarefulKin(LADDER).greatest((0, 0, 1, 0), (0, 0, 0, 0)), [2, 18, 1, 6])
        self.assertEqual(WiredKin(LADDER).greatest((0, 0, 1, 0), (0, 0, 0, 0)), [2, 8, 1, 4])
        self.assertEqual(CarefulWiredKin(LADDER).greatest((0, 0, 1, 0), (0, 0, 0, 0)), [2, 8, 1, 4])

    def test_negative_counts_enter_the_sums_as_they_are(self):
        self.assertEqual(Kin(LADDER).greatest((2, 2, 0, 2), (0, 0, 1, 0)), [0, 0, -1, 0])
        self.assertEqual(WiredKin(LADDER).greatest((0, 0, 0, 0), (0, 0, 1, 0)), [-2, -8, -1, -4])

    def test_agree_with_runs_made_by_hand(self):
        for rule in RULES:
            for house in SMALL[::2] if rule in (Kin, WiredKin) else SMALL:
                self.check_runs_by_hand(rule(house))

    def check_runs_by_hand(self, rule):
        for source in all_states(rule.house):
            tallies = {}
            for target, counts in tallies_by_hand(rule, source):
                tallies.setdefault(target, []).append(counts)
            for target in all_states(rule.house):
                greatest = tuple(rule.greatest(source, target))
                self.assertIs(rule.reaches(source, target), target in tallies)
                self.assertEqual(min(greatest) >= 0, target in tallies)
                if target in tallies:
                    most = tuple(max(counts) for counts in zip(*tallies[target]))
                    self.assertEqual(most, greatest)
                    self.assertIn(greatest, tallies[target])
                if type(rule) in CAREFUL and target in tallies:
                    self.assertEqual(tallies[target], [greatest])

    def test_free_and_careful_rule_reach_what_is_reachable(self):
        for house in SMALL:
            pairs = reachable_pairs(house)
            for source in all_states(house):
                for target in all_states(house):
                    self.assertIs(Kin(house).reaches(source, target), (source, target) in pairs)
                    self.assertIs(CarefulKin(house).reaches(source, target), (source, target) in pairs)

    def test_wired_rule_of_closed_houses(self):
        for house in [*SMALL, *all_houses(3, 3)]:
            states = all_states(house)
            pairs = [(source, target) for source in states for target in states]
            same = all(WiredKin(house).reaches(*pair) == Kin(house).reaches(*pair) for pair in pairs)
            self.assertEqual(same, house == house.closed())

    def test_great_houses(self):
        for house in great_houses():
            dark, bright = dark_state(house), bright_state(house)
            greatest = list(greatest_tally(house, bright, dark).counts)
            self.assertEqual(Kin(house).greatest(bright, dark), greatest)
            self.assertEqual(Kin(house).greatest(dark, bright), [-count for count in greatest])
            for rule in RULES:
                self.assertEqual(rule(house).greatest(bright, bright), [0] * 16)
                self.assertIs(rule(house).reaches(bright, dark), True)
                self.assertIs(rule(house).reaches(dark, bright), False)
        self.assertEqual(Kin(chain(16, 10)).greatest((9,) * 16, (0,) * 16), [9 * 10 ** lamp for lamp in range(16)])
        counts = [9]
        while len(counts) < 16:
            counts.append(9 + 9 * counts[-1])
        self.assertEqual(WiredKin(chain(16, 10)).greatest((9,) * 16, (0,) * 16), counts)


class RunTest(FaultTest):
    """Point 66."""

    def test_ordinary_runs(self):
        house = chain(3, 2)
        self.assertEqual(Kin(house).run((1, 0, 0), (0, 0, 0)), [0, 2, 1, 2])
        self.assertEqual(CarefulKin(house).run((1, 0, 0), (0, 0, 0)), [0, 2, 1, 2])
        self.assertEqual(WiredKin(house).run((1, 0, 0), (0, 0, 0)), [0, 1, 2])
        self.assertEqual(WiredKin(house).run((1, 0, 1), (0, 0, 0)), [2, 0, 1, 2])
        self.assertEqual(CarefulWiredKin(house).run((1, 0, 1), (0, 0, 0)), [0, 2, 1, 2])

    def test_runs_are_allowed_and_have_the_greatest_counts(self):
        for rule in RULES:
            for house in SMALL:
                made = rule(house)
                for source in all_states(house):
                    for target in all_states(house):
                        if made.reaches(source, target):
                            self.check_run(made, source, target)

    def check_run(self, rule, source, target):
        run = rule.run(source, target)
        self.assertIs(type(run), list)
        self.assertEqual(counts_of(rule, run), rule.greatest(source, target))
        self.assertEqual(run, self.run_by_the_words(rule, source, target))
        state = source
        for lamp in run:
            state = dict(moves_by_hand(rule, state))[lamp]
        self.assertEqual(state, target)

    def run_by_the_words(self, rule, source, target):
        """The run as points 42 and 43 tell it, with the turned lamps of the rule."""
        left = rule.greatest(source, target)
        if type(rule) not in CAREFUL:
            turned = [turned_by_hand(rule, lamp) for lamp in range(rule.house.count)]
            return put_in_by_the_words(rule.house, turned, source, left)
        run, state = [], source
        while any(left):
            lamp, state = min((lamp, other) for lamp, other in moves_by_hand(rule, state) if left[lamp])
            left[lamp] -= 1
            run.append(lamp)
        return run

    def test_free_and_careful_rule_have_the_runs_of_free_and_careful_moves(self):
        for house in SMALL:
            for source, target in reachable_pairs(house):
                self.assertEqual(Kin(house).run(source, target), longest_run(house, source, target))
                self.assertEqual(CarefulKin(house).run(source, target), careful_run(house, source, target))

    def test_equal_states(self):
        for rule in RULES:
            for house in great_houses():
                self.assertEqual(rule(house).run(bright_state(house), bright_state(house), limit=0), [])

    def test_not_reachable_with_the_first_lamp_of_the_order_list(self):
        # The order list is 1, 2, 0.
        house = House(3, 2, [(2, 0)])
        for rule in RULES:
            for target, lamp in (((1, 0, 1), 2), ((1, 1, 1), 1), ((0, 1, 0), 1), ((1, 0, 0), 0)):
                fault = {"lamp": lamp}
                self.assert_fault(NotReachable, fault, rule(house).run, (0, 0, 0), target, limit=0)

    def test_the_wired_rule_reaches_less(self):
        house = chain(3, 3)
        self.assertTrue(WiredKin(house).reaches((1, 0, 0), (0, 1, 2)))
        self.assert_fault(NotReachable, {"lamp": 2}, WiredKin(house).run, (1, 0, 0), (0, 2, 1))
        self.assertTrue(Kin(house).reaches((1, 0, 0), (0, 2, 1)))

    def test_limit(self):
        house = chain(3, 2)
        for rule in (Kin, CarefulKin):
            self.assertEqual(len(rule(house).run((1, 1, 1), (0, 0, 0), limit=7)), 7)
            self.assert_fault(TooLong, {"length": 7}, rule(house).run, (1, 1, 1), (0, 0, 0), limit=6)
        for rule in (WiredKin, CarefulWiredKin):
            self.assertEqual(len(rule(house).run((1, 1, 1), (0, 0, 0), limit=6)), 6)
            self.assert_fault(TooLong, {"length": 6}, rule(house).run, (1, 1, 1), (0, 0, 0), limit=5)

    def test_default_limit(self):
        house = chain(4, 10)
        for rule in (Kin, CarefulKin):
            self.assertEqual(len(rule(house).run((1, 0, 0, 0), (0, 0, 0, 0))), 1000)
            self.assert_fault(TooLong, {"length": 1001}, rule(house).run, (1, 0, 0, 1), (0, 0, 0, 0))
        for rule in RULES:
            made = rule(chain(16, 10))
            length = sum(made.greatest((9,) * 16, (0,) * 16))
            self.assert_fault(TooLong, {"length": length}, made.run, (9,) * 16, (0,) * 16)
            self.assert_fault(TooLong, {"length": length}, made.run, (9,) * 16, (0,) * 16, limit=length - 1)

    def test_a_house_of_16_lamps(self):
        house = floors([4, 4, 4, 4], 10)
        for rule in RULES:
            made = rule(house)
            source, target = (0,) * 7 + (2,) + (0,) * 8, dark_state(house)
            self.check_run_by_moves(made, source, target)

    def check_run_by_moves(self, rule, source, target):
        state = source
        run = rule.run(source, target, limit=10 ** 4)
        for lamp in run:
            self.assertTrue(rule.allowed(state, lamp))
            state = rule.after(state, lamp)
        self.assertEqual(state, target)
        self.assertEqual(counts_of(rule, run), rule.greatest(source, target))


class WorthTest(FaultTest):
    """Point 67."""

    def test_ordinary_worth(self):
        # The weights along the chain 2, 0, 3, 1 are 27, 9, 3, 1 and 15, 7, 3, 1.
        for rule, weights in zip(RULES, [(9, 1, 27, 3), (9, 1, 27, 3), (7, 1, 15, 3), (7, 1, 15, 3)]):
            for lamp in range(4):
                state = tuple(2 if lamp == other else 0 for other in range(4))
                self.assertEqual(rule(LADDER).worth(state), 2 * weights[lamp])
            self.assertEqual(rule(LADDER).worth((1, 1, 2, 1)), sum(weights) + weights[2])
            self.assertEqual(rule(LADDER).worth((0, 0, 0, 0)), 0)

    def test_moves_lower_the_worth(self):
        for rule in RULES:
            for house in SMALL:
                made = rule(house)
                for state in all_states(house):
                    for lamp, other in moves_by_hand(made, state):
                        loss = made.worth(state) - made.worth(other)
                        self.assertGreaterEqual(loss, 1)
                        if rule in CAREFUL:
                            self.assertEqual(loss, 1)

    def test_sum_of_the_greatest_counts(self):
        for rule in RULES:
            for house in [*SMALL, hillside(2, 3, 2)]:
                made = rule(house)
                worths = {state: made.worth(state) for state in all_states(house)}
                for source in list(worths)[::3]:
                    for target in worths:
                        self.assertEqual(sum(made.greatest(source, target)), worths[source] - worths[target])

    def test_great_houses(self):
        for house in great_houses():
            bright = bright_state(house)
            self.assertEqual(Kin(house).worth(bright), worth(house, bright))
            self.assertEqual(CarefulKin(house).worth(bright), worth(house, bright))
        self.assertEqual(WiredKin(floors([4, 4, 4, 4], 10)).worth((1,) * 16), 4 * (1 + 37 + 1333 + 47989))
