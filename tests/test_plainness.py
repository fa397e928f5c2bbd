import unittest
from itertools import product

from huefall.house import House
from huefall.lattice import join, meet
from huefall.plainness import fork, fork_states, is_plain
from huefall.reach import is_reachable
from huefall.shapes import chain, floors, hillside, stairs
from tests.helpers import all_houses, all_states, lamps_below, small_houses

FOURS = all_houses(4, 2)


def searched_fork(house):
    """The fork, found among all triples of lamps."""
    below = [lamps_below(house.wires, lamp) for lamp in range(house.count)]
    for upper1, upper2, lower in product(range(house.count), repeat=3):
        apart = upper1 < upper2 and upper2 not in below[upper1] and upper1 not in below[upper2]
        if apart and lower in below[upper1] and lower in below[upper2]:
            return upper1, upper2, lower
    return None


class ForkTest(unittest.TestCase):
    """Points 59 and 60."""

    def test_plain_houses(self):
        steps = stairs([None, 0, 0, 1, 1, None, 5], 3)
        for house in (chain(16, 10), House(16, 10), steps, House(1, 2), chain(3, 2).closed()):
            self.assertIs(is_plain(house), True)
            self.assertIsNone(fork(house))
            self.assertIsNone(fork_states(house))

    def test_houses_that_are_not_plain(self):
        house = floors([2, 1], 2)
        self.assertIs(is_plain(house), False)
        self.assertEqual(fork(house), (0, 1, 2))
        self.assertEqual(fork_states(house), ((1, 0, 0), (0, 1, 0), (1, 0, 1)))
        house = House(5, 3, [(4, 2), (2, 0), (3, 0), (4, 1), (0, 1)])
        self.assertEqual(fork(house), (2, 3, 0))
        self.assertEqual(fork_states(house), ((0, 0, 1, 0, 0), (0, 0, 0, 1, 0), (1, 0, 1, 0, 0)))

    def test_smallest_triple(self):
        for house in [*FOURS, *small_houses()]:
            self.assertEqual(fork(house), searched_fork(house))
            self.assertIs(is_plain(house), searched_fork(house) is None)

    def test_houses_of_16_lamps(self):
        self.assertEqual(fork(floors([4, 4, 4, 4], 10)), (0, 1, 4))
        self.assertEqual(fork(hillside(4, 4, 10)), (1, 4, 5))
        house = House(16, 10, [(15, 13), (14, 13)])
        self.assertEqual(fork(house), (14, 15, 13))
        x, y, z = fork_states(house)
        self.assertEqual((x, y), ((0,) * 14 + (1, 0), (0,) * 15 + (1,)))
        self.assertEqual(z, (0,) * 13 + (1, 1, 0))

    def test_meets_and_joins_in_plain_houses(self):
        houses = [house for house in [*small_houses(), *FOURS[::29]] if is_plain(house)]
        for house in [house for house in houses if house.hues ** house.count <= 16]:
            for x, y, z in product(all_states(house), repeat=3):
                both = join(house, meet(house, x, y), meet(house, x, z))
                self.assertEqual(meet(house, x, join(house, y, z)), both)

    def test_states_of_the_fork(self):
        for house in [*FOURS, floors([2, 1], 10), hillside(4, 4, 10), floors([4, 4, 4, 4], 10)]:
            if not is_plain(house):
                x, y, z = fork_states(house)
                self.assertTrue(is_reachable(house, z, x))
                self.assertNotEqual(join(house, x, meet(house, y, z)), meet(house, join(house, x, y), z))
