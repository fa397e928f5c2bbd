from huefall.building import careful_run
from huefall.errors import DarkLamp, InvalidLamp, InvalidState, LitBeneath
from huefall.lengths import least_run, worth
from huefall.report import run_table
from huefall.runs import states_along
from huefall.shapes import chain, floors, hillside
from huefall.states import bright_state, dark_state
from tests.helpers import FaultTest, all_states, great_houses, no_lamps, no_states, reachable_pairs, small_houses


class RunTableTest(FaultTest):
    """Point 90."""

    def test_ordinary_table(self):
        expected = [
            "    0    - 102                                     5",
            "    1    2 101                                     4",
            "    2    0 000                                     0",
        ]
        self.assertEqual(run_table(floors([2, 1], 3), (1, 0, 2), [2, 0]), expected)

    def test_the_empty_run(self):
        house = chain(2, 2)
        self.assertEqual(run_table(house, (1, 0), []), ["    0    - 10                                      2"])
        for house in great_houses():
            found = run_table(house, dark_state(house), [])
            self.assertEqual(found, ["    0    - " + "0" * 16 + " " * 24 + "0"])

    def test_worths_above_999(self):
        house = chain(16, 10)
        found = run_table(house, (9,) * 16, [15, 0])
        self.assertEqual(found[0], "    0    - 9999999999999999    9,999,999,999,999,999")
        self.assertEqual(found[1], "    1   15 9999999999999998    9,999,999,999,999,998")
        self.assertEqual(found[2], "    2    0 8888888888888887    8,888,888,888,888,887")
        house = chain(4, 10)
        run = [0, 0]
        found = run_table(house, (2, 0, 0, 0), run)
        self.assertEqual(found[0], "    0    - 2000                                2,000")
        self.assertEqual([line.split()[-1] for line in found], ["2,000", "1,999", "888"])
        self.assertEqual(run, [0, 0])

    def test_columns(self):
        house = hillside(2, 3, 4)
        bright = bright_state(house)
        run = least_run(house, bright, dark_state(house))
        table, states = run_table(house, bright, run), states_along(house, bright, run)
        self.assertEqual(len(table), len(states))
        for step, (line, state) in enumerate(zip(table, states)):
            self.assertEqual((len(line), line[5], line[10], line[27]), (52, " ", " ", " "))
            self.assertEqual(line[:5], str(step).rjust(5))
            self.assertEqual(line[6:10], (str(run[step - 1]) if step else "-").rjust(4))
            self.assertEqual(line[11:27], "".join(map(str, state)).ljust(16))
            self.assertEqual(line[28:], format(worth(house, state), ",").rjust(24))

    def test_agrees_with_the_states_along_the_run(self):
        for house in small_houses():
            for source, target in reachable_pairs(house):
                run = careful_run(house, source, target)
                states = states_along(house, source, run)
                expected = [
                    f"{step:>5} {lamp:>4} {''.join(map(str, state)):<16} {worth(house, state):>24,}"
                    for step, (lamp, state) in enumerate(zip(["-", *run], states))
                ]
                self.assertEqual(run_table(house, source, run, careful=True), expected)
                self.assertEqual(run_table(house, source, run), expected)

    def test_many_moves(self):
        house = chain(10, 2)
        run = careful_run(house, (1,) * 10, (0,) * 10, limit=1023)
        table = run_table(house, (1,) * 10, run, careful=True)
        self.assertEqual((len(table), table[-1][:21]), (1024, " 1023    9 0000000000"))
        self.assertEqual({len(line) for line in table}, {52})

    def test_a_longer_text_is_not_cut(self):
        house = chain(6, 10)
        run = careful_run(house, (1, 0, 0, 0, 0, 1), (0,) * 6, limit=10 ** 6)
        table = run_table(house, (1, 0, 0, 0, 0, 1), run, careful=True)
        self.assertEqual(table[99999], "99999    5 000002" + " " * 34 + "2")
        self.assertEqual(table[100001], "100001    5 000000" + " " * 34 + "0")

    def test_refused_moves(self):
        house = floors([2, 1], 3)
        self.assert_fault(DarkLamp, {"lamp": 1, "step": 0}, run_table, house, (1, 0, 2), [1])
        self.assert_fault(DarkLamp, {"lamp": 0, "step": 2}, run_table, house, (1, 0, 2), [2, 0, 0])
        fault = {"lamp": 0, "step": 1, "lower": 2}
        self.assert_fault(LitBeneath, fault, run_table, house, (1, 0, 2), [2, 0], careful=True)
        self.assertEqual(len(run_table(house, (1, 0, 2), [2, 2, 0], careful=True)), 4)

    def test_order_of_the_checks(self):
        house = chain(3, 2)
        for value in no_states(house):
            self.assert_fault(InvalidState, {"state": value}, run_table, house, value, ["no lamp"])
        for value in no_lamps(house):
            # The first move is refused, but the check of the lamps comes before.
            self.assert_fault(InvalidLamp, {"lamp": value}, run_table, house, (0, 0, 0), [0, value, "later"])

    def test_lists_are_new(self):
        house = chain(2, 2)
        for state in all_states(house):
            run_table(house, state, []).clear()
            self.assertEqual(len(run_table(house, state, [])), 1)
