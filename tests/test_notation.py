from huefall.errors import InvalidLamp, InvalidState, InvalidText
from huefall.house import House
from huefall.notation import house_text, read_house, read_run, read_state, run_text, state_text
from huefall.shapes import chain, floors
from tests.helpers import FaultTest, all_houses, all_states, small_houses

LONG = "1" * 6000
BAD_NUMBERS = ["", "00", "01", "+1", "-1", "1.", "1_0", "x", "1\t", "\u0661", "\u00b2", "100", LONG, "0" * 6000]


class WritingTest(FaultTest):
    """Point 13."""

    def test_example_of_point_14(self):
        self.assertEqual(house_text(floors([2, 1], 3)), "house 3 3\n0 > 2\n1 > 2")

    def test_house_text(self):
        self.assertEqual(house_text(House(1, 2)), "house 1 2")
        house = House(12, 10, [(11, 10), (11, 2), (0, 11)])
        self.assertEqual(house_text(house), "house 12 10\n0 > 11\n11 > 2 10")

    def test_state_text(self):
        self.assertEqual(state_text(chain(3, 10), (9, 0, 5)), "905")
        self.assertEqual(state_text(chain(16, 2), (1,) * 16), "1" * 16)
        self.assert_fault(InvalidState, {"state": (0, 2)}, state_text, chain(2, 2), (0, 2))

    def test_run_text(self):
        self.assertEqual(run_text(chain(12, 2), [11, 0, 0, 3]), "11 0 0 3")
        self.assertEqual(run_text(chain(12, 2), []), "-")
        self.assertEqual(run_text(chain(1, 2), [0]), "0")
        for value in (12, -1, True, None, "0", [0]):
            self.assert_fault(InvalidLamp, {"lamp": value}, run_text, chain(12, 2), [11, value, 99])

    def test_a_run_that_was_passed(self):
        run = [1, 0]
        run_text(chain(2, 2), run)
        self.assertEqual(run, [1, 0])


class ReadingHousesTest(FaultTest):
    """Point 14."""

    def assert_bad_line(self, line, text):
        self.assert_fault(InvalidText, {"line": line}, read_house, text)

    def test_written_houses_are_read(self):
        every_wire = [(upper, lower) for upper in range(16) for lower in range(upper)]
        for house in [*all_houses(4, 3), House(1, 2), House(16, 10), House(16, 10, every_wire)]:
            self.assertEqual(read_house(house_text(house)), house)

    def test_first_line(self):
        bad = ["", " ", "house", "house 2", "house 2 ", "house 2 2 ", " house 2 2", "house  2 2", "house 2 2 2"]
        bad += ["House 2 2", "haus 2 2", "house\t2 2", "house 0 2", "house 17 2", "house 2 1", "house 2 11"]
        bad += ["house 2 2\r", "0 > 1", "house 1 02", "house 02 2"]
        bad += [f"house {number} 2" for number in BAD_NUMBERS]
        bad += [f"house 2 {number}" for number in BAD_NUMBERS]
        for line in bad:
            self.assert_bad_line(1, line)
            self.assert_bad_line(1, line + "\n0 > 1")
        self.assert_bad_line(1, "\nhouse 2 2")

    def test_later_lines(self):
        bad = ["", " ", "1", "1 >", "1 > ", "1 > 2 ", " 1 > 2", "1  > 2", "1 >  2", "1 > 2  3", "1 < 2", "1>2", "1 2 3"]
        bad += ["1 > 4", "4 > 1", "1 > 3 2", "1 > 2 2", "1 > 1", "1 > 1 2", "1 > 0", "0 > 2", "1 > 2\r", "1 > > 2"]
        bad += ["> 1 2", "1 > 2 3 4", "house 4 2"]
        bad += [f"1 > {number}" for number in BAD_NUMBERS]
        bad += [f"1 > 2 {number}" for number in BAD_NUMBERS]
        bad += [f"{number} > 2" for number in BAD_NUMBERS]
        for line in bad:
            self.assert_bad_line(3, "house 4 2\n0 > 1\n" + line)
            self.assert_bad_line(3, "house 4 2\n0 > 1\n" + line + "\nbad")

    def test_any_lamp_may_be_the_first_upper_lamp(self):
        self.assertEqual(read_house("house 2 2\n1 > 0"), House(2, 2, [(1, 0)]))

    def test_upper_lamps_ascend(self):
        self.assert_bad_line(3, "house 4 2\n2 > 3\n2 > 1")
        self.assert_bad_line(3, "house 4 2\n2 > 3\n1 > 0")

    def test_cycles(self):
        self.assert_bad_line(3, "house 3 2\n0 > 1\n1 > 0")
        self.assert_bad_line(4, "house 4 2\n0 > 2\n1 > 3\n2 > 0\n3 > 1")
        self.assert_bad_line(4, "house 3 2\n0 > 1\n1 > 2\n2 > 0 1\nbad")

    def test_newlines(self):
        self.assert_bad_line(1, "")
        self.assert_bad_line(1, "\n")
        self.assert_bad_line(2, "house 2 2\n")
        self.assert_bad_line(3, "house 2 2\n0 > 1\n")
        self.assert_bad_line(2, "house 2 2\n\n0 > 1")
        for separator in ("\r\n", "\r", "\x0b", "\x0c", "\u2028", "\x85"):
            self.assert_bad_line(1, "house 2 2" + separator + "0 > 1")

    def test_very_many_words_and_lines(self):
        self.assert_bad_line(2, "house 2 2\n0 > " + " ".join(["1"] * 5000))
        self.assert_bad_line(2, "house 2 2" + "\n" * 5000)


class ReadingStatesAndRunsTest(FaultTest):
    """Point 14."""

    def test_written_states_are_read(self):
        for house in small_houses():
            for state in all_states(house):
                self.assertEqual(read_state(house, state_text(house, state)), state)
        self.assertEqual(read_state(chain(16, 10), "0123456789987654"), (*range(10), 9, 8, 7, 6, 5, 4))

    def test_bad_states(self):
        bad = ["", "0", "000", "02", "0 1", "01\n", "\n01", " 01", "01 ", "0-", "-1", "ab", "0\u0661", "0\u00b2", LONG]
        for text in bad:
            self.assert_fault(InvalidText, {"line": 1}, read_state, chain(2, 2), text)

    def test_written_runs_are_read(self):
        house = chain(12, 2)
        for run in ([], [0], [11, 0, 0, 3], [1, 10] * 400):
            self.assertEqual(read_run(house, run_text(house, run)), run)
        read_run(house, "-").append(1)
        self.assertEqual(read_run(house, "-"), [])

    def test_bad_runs(self):
        bad = ["", " ", "--", "- ", " -", "-\n", "0 -", "0  1", " 0", "0 ", "0\n", "0\n1", "0,1", "12", "0 12", "0\t1"]
        for text in [*bad, *BAD_NUMBERS, *["0 " + number for number in BAD_NUMBERS]]:
            self.assert_fault(InvalidText, {"line": 1}, read_run, chain(12, 2), text)
