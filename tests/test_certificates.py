from huefall.certificates import careful_certificate, certificate, is_certificate, joined
from huefall.building import careful_run
from huefall.errors import InvalidState, NotReachable, TooLong
from huefall.house import House
from huefall.lengths import least_run
from huefall.reach import obstacle
from huefall.shapes import chain, floors
from huefall.states import bright_state, dark_state
from tests.helpers import (
    FaultTest,
    Unequal,
    all_states,
    great_houses,
    lamps_below,
    moves_from,
    no_lamps,
    no_states,
    reachable_pairs,
    small_houses,
)

SMALL = small_houses()


NO_CERTIFICATES = [None, True, 0, "run", "", (), [], {}, ("run",), ("lamp",), ("run", [], []), ("lamp", 0, 0)]
NO_CERTIFICATES += [["run", []], ["lamp", 1], {"run": []}, ("Run", []), ("lamps", 1), ("", []), (None, [])]
NO_CERTIFICATES += [(["run"], []), (("lamp",), 1), (b"run", []), (True, 1), (Unequal(), []), Unequal(), float("nan")]
NO_CERTIFICATES += [("run", Unequal()), ("lamp", Unequal()), ("run", [Unequal()]), ([], "run"), (1, "lamp")]


def played(house, state, run, careful):
    """The state after the run, or None if a move is refused, by moves made by hand."""
    for lamp in run:
        state = dict(moves_from(house, state, careful)).get(lamp)
        if state is None:
            return None
    return state


def changed_runs(house, run):
    """The run with one move left out, one put in, one made at another lamp, or two in the other order."""
    found = [[*run[:at], lamp, *run[at:]] for at in range(len(run) + 1) for lamp in range(house.count)]
    found += [[*run[:at], *run[at + 1:]] for at in range(len(run))]
    found += [[*run[:at], lamp, *run[at + 1:]] for at in range(len(run)) for lamp in range(house.count)]
    return found + [[*run[:at], run[at + 1], run[at], *run[at + 2:]] for at in range(len(run) - 1)]


class MadeTest(FaultTest):
    """Points 25 and 26."""

    def test_example(self):
        self.assertEqual(certificate(chain(2, 3), (1, 0), (0, 2)), ("run", [0]))
        self.assertEqual(certificate(chain(2, 3), (0, 2), (1, 0)), ("lamp", 0))

    def test_each_pair_of_states(self):
        for house in SMALL:
            pairs = reachable_pairs(house)
            for source in all_states(house):
                for target in all_states(house):
                    free, careful = certificate(house, source, target), careful_certificate(house, source, target)
                    if (source, target) in pairs:
                        self.assertEqual(free, ("run", least_run(house, source, target)))
                        self.assertEqual(careful, ("run", careful_run(house, source, target)))
                    else:
                        self.assertEqual(free, ("lamp", obstacle(house, source, target)))
                        self.assertEqual(careful, free)
                    self.assertTrue(is_certificate(house, source, target, free))
                    self.assertTrue(is_certificate(house, source, target, careful))
                    self.assertTrue(is_certificate(house, source, target, careful, careful=True))

    def test_equal_states(self):
        for house in great_houses():
            for state in (dark_state(house), bright_state(house)):
                self.assertEqual(certificate(house, state, state), ("run", []))
                self.assertEqual(careful_certificate(house, state, state, limit=0), ("run", []))
                self.assertIs(is_certificate(house, state, state, ("run", [])), True)

    def test_great_houses(self):
        for house in great_houses():
            dark, bright = dark_state(house), bright_state(house)
            made = certificate(house, bright, dark)
            self.assertEqual(made[0], "run")
            self.assertTrue(is_certificate(house, bright, dark, made))
            self.assertEqual(certificate(house, dark, bright), ("lamp", 0))
            self.assertTrue(is_certificate(house, dark, bright, ("lamp", 0), careful=True))

    def test_limit(self):
        house = chain(3, 2)
        call = (careful_certificate, house, (1, 1, 1), (0, 0, 0))
        self.assertEqual(len(careful_certificate(house, (1, 1, 1), (0, 0, 0), limit=7)[1]), 7)
        self.assert_fault(TooLong, {"length": 7}, *call, limit=6)
        self.assertEqual(careful_certificate(house, (0, 1, 1), (1, 0, 0), limit=0), ("lamp", 0))
        house = chain(16, 10)
        call = (careful_certificate, house, bright_state(house), dark_state(house))
        self.assert_fault(TooLong, {"length": 10 ** 16 - 1}, *call)
        house = chain(4, 10)
        self.assertEqual(len(careful_certificate(house, (1, 0, 0, 0), (0, 0, 0, 0))[1]), 1000)
        self.assert_fault(TooLong, {"length": 1001}, careful_certificate, house, (1, 0, 0, 1), (0, 0, 0, 0))

    def test_values_that_are_no_states(self):
        for function in (certificate, careful_certificate):
            self.assert_checks_states(chain(2, 3), function, 2)


class CheckTest(FaultTest):
    """Point 27."""

    def test_every_lamp(self):
        for house in SMALL:
            below = [lamps_below(house.wires, lamp) for lamp in range(house.count)]
            for source in all_states(house):
                for target in all_states(house):
                    for lamp in range(house.count):
                        above = [upper for upper in range(house.count) if lamp in below[upper]]
                        same = all(source[upper] == target[upper] for upper in above)
                        right = target[lamp] > source[lamp] and same
                        for careful in (False, True):
                            found = is_certificate(house, source, target, ("lamp", lamp), careful=careful)
                            self.assertIs(found, right)

    def test_made_runs_changed_in_one_place(self):
        for house in SMALL[::3]:
            for source, target in reachable_pairs(house):
                for careful in (False, True):
                    made = careful_certificate if careful else certificate
                    _, run = made(house, source, target)
                    for other in changed_runs(house, run[:12]):
                        right = played(house, source, other, careful) == target
                        found = is_certificate(house, source, target, ("run", other), careful=careful)
                        self.assertIs(found, right)

    def test_made_certificates_with_another_part(self):
        house = floors([2, 1], 3)
        source, target = (1, 0, 2), (0, 0, 1)
        word, run = certificate(house, source, target)
        self.assertIs(is_certificate(house, source, target, (word, run)), True)
        self.assertIs(is_certificate(house, target, source, (word, run)), False)
        for value in ([word, run], (word, tuple(run)), ("lamp", run), (run, word), (word, run, run), (word, [run])):
            self.assertIs(is_certificate(house, source, target, value), False)
        word, lamp = certificate(house, target, source)
        self.assertIs(is_certificate(house, target, source, (word, lamp)), True)
        self.assertIs(is_certificate(house, source, target, (word, lamp)), False)
        for value in ([word, lamp], (word, [lamp]), ("run", lamp), ("run", [lamp]), (lamp, word), (word, str(lamp))):
            self.assertIs(is_certificate(house, target, source, value), False)

    def test_free_run_as_a_careful_certificate(self):
        house = chain(2, 2)
        self.assertIs(is_certificate(house, (1, 1), (0, 0), ("run", [0])), True)
        self.assertIs(is_certificate(house, (1, 1), (0, 0), ("run", [0]), careful=True), False)
        self.assertIs(is_certificate(house, (1, 1), (0, 0), ("run", [1, 0, 1]), careful=True), True)

    def test_values_that_are_no_certificates(self):
        for house in (chain(2, 3), House(2, 2)):
            for source in all_states(house):
                for target in all_states(house):
                    for value in NO_CERTIFICATES:
                        for careful in (False, True):
                            self.assertIs(is_certificate(house, source, target, value, careful=careful), False)

    def test_values_that_are_no_lamps(self):
        house = chain(2, 2)
        for value in no_lamps(house):
            self.assertIs(is_certificate(house, (0, 0), (1, 1), ("lamp", value)), False)
            self.assertIs(is_certificate(house, (0, 0), (0, 1), ("lamp", value)), False)
            # The run would lead to the target if the values that equal lamps were lamps.
            self.assertIs(is_certificate(house, (1, 0), (0, 1), ("run", [value])), False)
            self.assertIs(is_certificate(house, (0, 1), (0, 0), ("run", [value])), False)
            self.assertIs(is_certificate(house, (0, 1), (0, 0), ("run", [1, value])), False)

    def test_runs_of_any_length(self):
        house = chain(14, 2)
        run = careful_run(house, bright_state(house), dark_state(house), limit=2 ** 14)
        call = (house, bright_state(house), dark_state(house))
        self.assertIs(is_certificate(*call, ("run", run), careful=True), True)
        self.assertIs(is_certificate(*call, ("run", run[:-1]), careful=True), False)
        self.assertIs(is_certificate(*call, ("run", run * 20)), False)

    def test_the_value_is_not_changed(self):
        value = ("run", [1, 0])
        self.assertTrue(is_certificate(chain(2, 3), (1, 1), (0, 2), value))
        self.assertEqual(value, ("run", [1, 0]))

    def test_values_that_are_no_states(self):
        self.assert_checks_states(chain(2, 3), is_certificate, 2, None)


class JoinedTest(FaultTest):
    """The certificate by way of a third state."""

    def test_ordinary_certificate(self):
        house = chain(2, 3)
        self.assertEqual(joined(house, (2, 0), (1, 1), (0, 0)), ("run", [0, 1, 0]))
        self.assertEqual(joined(house, (2, 0), (0, 2), (0, 0)), ("run", [0, 1, 1, 0, 1, 1]))
        self.assertEqual(joined(house, (2, 0), (2, 0), (2, 0)), ("run", []))

    def test_each_triple_of_states(self):
        for house in SMALL[::4]:
            pairs = reachable_pairs(house)
            for source, middle in pairs:
                for target in all_states(house):
                    if (middle, target) in pairs:
                        run = least_run(house, source, middle) + least_run(house, middle, target)
                        found = joined(house, source, middle, target)
                        self.assertEqual(found, ("run", run))
                        self.assertTrue(is_certificate(house, source, target, found))

    def test_not_reachable(self):
        house = House(3, 2)
        source, middle, target = (1, 0, 0), (0, 1, 0), (0, 0, 1)
        self.assert_fault(NotReachable, {"lamp": 1}, joined, house, source, middle, target)
        self.assert_fault(NotReachable, {"lamp": 2}, joined, house, source, source, target)
        # The target is reachable from the source, but not by way of the middle.
        self.assert_fault(NotReachable, {"lamp": 1}, joined, house, (1, 1, 1), (1, 0, 1), (0, 1, 0))
        self.assert_fault(NotReachable, {"lamp": 2}, joined, house, (1, 1, 0), (1, 1, 1), (0, 1, 0))

    def test_values_that_are_no_states(self):
        house = House(3, 2)
        self.assert_checks_states(house, joined, 3)
        for value in no_states(house):
            # The middle is not reachable from the source either.
            self.assert_fault(InvalidState, {"state": value}, joined, house, (0, 0, 0), (1, 1, 1), value)
