from huefall.covers import covered_by, covers_of, is_cover
from huefall.house import House
from huefall.lengths import worth
from huefall.shapes import chain, floors
from huefall.states import bright_state, dark_state
from tests.helpers import FaultTest, all_houses, all_states, great_houses, moves_from, reachable_pairs, small_houses

SMALL = [*small_houses(), *all_houses(4, 2)[::29]]


def searched_covers(house):
    """The pairs of states of which the second is reachable from the first, with no third one between."""
    pairs = reachable_pairs(house)
    below = {state: {target for source, target in pairs if source == state} - {state} for state in all_states(house)}
    covers = []
    for source in below:
        for target in below[source]:
            if not any(target in below[third] for third in below[source]):
                covers.append((source, target))
    return covers


class CoversTest(FaultTest):
    """Point 58."""

    def test_ordinary_covers(self):
        house = floors([2, 1], 3)
        self.assertEqual(covered_by(house, (1, 2, 0)), [(0, (0, 2, 2)), (1, (1, 1, 2))])
        self.assertEqual(covered_by(house, (1, 2, 1)), [(2, (1, 2, 0))])
        self.assertEqual(covers_of(house, (1, 2, 2)), [(0, (2, 2, 0))])
        self.assertEqual(covers_of(house, (1, 1, 2)), [(0, (2, 1, 0)), (1, (1, 2, 0))])
        self.assertEqual(covers_of(house, (1, 2, 1)), [(2, (1, 2, 2))])
        self.assertIs(is_cover(house, (1, 2, 0), (0, 2, 2)), True)
        self.assertIs(is_cover(house, (1, 2, 0), (0, 2, 1)), False)
        self.assertIs(is_cover(house, (0, 2, 2), (1, 2, 0)), False)

    def test_no_third_state_is_between(self):
        for house in SMALL:
            covers = searched_covers(house)
            for source in all_states(house):
                for target in all_states(house):
                    self.assertIs(is_cover(house, source, target), (source, target) in covers)

    def test_careful_moves_are_the_covers(self):
        for house in SMALL:
            states = all_states(house)
            moves = {state: moves_from(house, state, True) for state in states}
            for state in states:
                self.assertEqual(covered_by(house, state), moves[state])
                above = [(lamp, other) for other in states for lamp, after in moves[other] if after == state]
                self.assertEqual(covers_of(house, state), sorted(above))

    def test_steps_from_one_state_to_another(self):
        for house in SMALL:
            for source, target in searched_covers(house):
                self.assertEqual(worth(house, source) - worth(house, target), 1)

    def test_dark_bright_and_equal_states(self):
        for house in great_houses():
            dark, bright = dark_state(house), bright_state(house)
            self.assertEqual((covered_by(house, dark), covers_of(house, bright)), ([], []))
            self.assertEqual([lamp for lamp, _ in covered_by(house, bright)], house.bottoms())
            self.assertEqual([lamp for lamp, _ in covers_of(house, dark)], house.bottoms())
            self.assertIs(is_cover(house, bright, bright), False)
            self.assertIs(is_cover(house, bright, dark), False)
            for lamp, state in covered_by(house, bright):
                self.assertIs(is_cover(house, bright, state), True)
                self.assertIn((lamp, bright), covers_of(house, state))

    def test_a_great_chain(self):
        house = chain(16, 10)
        self.assertEqual(covered_by(house, (1,) + (0,) * 15), [(0, (0,) + (9,) * 15)])
        self.assertEqual(covers_of(house, (0,) + (9,) * 15), [(0, (1,) + (0,) * 15)])

    def test_lists_are_new(self):
        house = House(2, 2)
        covered_by(house, (1, 0)).clear()
        covers_of(house, (1, 0)).clear()
        self.assertEqual((covered_by(house, (1, 0)), covers_of(house, (1, 0))), ([(0, (0, 0))], [(1, (1, 1))]))

    def test_values_that_are_no_states(self):
        self.assert_checks_states(chain(2, 3), covered_by, 1)
        self.assert_checks_states(chain(2, 3), covers_of, 1)
        self.assert_checks_states(chain(2, 3), is_cover, 2)
