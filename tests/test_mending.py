import random
from itertools import combinations

from huefall.errors import InvalidEntry
from huefall.house import House
from huefall.mending import follows, groups, is_mended, longest_kept
from huefall.shapes import chain, floors, hillside
from huefall.states import bright_state, dark_state, state_of
from tests.helpers import (
    NO_INTEGERS,
    FaultTest,
    Unequal,
    all_states,
    great_houses,
    moves_from,
    no_states,
    small_houses,
)

SMALL = small_houses()


def lengths_by_hand(house):
    """For each pair of a source and a target the set of the lengths of the runs between them."""
    found = {}
    for source in all_states(house):
        states, length = {source}, 0
        while states:
            for target in states:
                found.setdefault((source, target), set()).add(length)
            states = {other for state in states for _, other in moves_from(house, state, False)}
            length += 1
    return found


class Checker:
    """The words of points 75 and 76 for a log, told by search."""

    def __init__(self, lengths, log):
        self.log = log
        self.lengths = lengths

    def next(self, index, later):
        (clock, state), (later_clock, later_state) = self.log[index], self.log[later]
        return later_clock - clock in self.lengths.get((state, later_state), ())

    def is_kept(self, indexes):
        return all(self.next(*pair) for pair in zip(indexes, indexes[1:]))

    def kept_lists(self):
        places = range(len(self.log))
        lists = [list(some) for size in range(len(self.log) + 1) for some in combinations(places, size)]
        return [some for some in lists if self.is_kept(some)]

    def longest(self):
        kept = self.kept_lists()
        most = max(len(some) for some in kept)
        return min(some for some in kept if len(some) == most)

    def groups(self):
        found = []
        for index in range(len(self.log)):
            grade = max(len(some) for some in self.kept_lists() if some and some[-1] == index)
            found += [[] for _ in range(grade - len(found))]
            found[grade - 1].append(index)
        return found

    def is_mended(self, kept, parts):
        """The check of point 76 for lists of integers."""
        indexes = list(range(len(self.log)))
        return (
            kept in self.kept_lists()
            and sorted(index for part in parts for index in part) == indexes
            and all(part and part == sorted(part) for part in parts)
            and not any(self.next(*pair) for part in parts for pair in combinations(part, 2))
            and len(kept) == len(parts)
        )


def no_entries(house):
    """Values that are not entries of a log."""
    dark = (0,) * house.count
    values = [None, True, 0, "", (), [], {}, [0, dark], (0,), (0, dark, 0), (dark, 0), (dark,), Unequal()]
    values += [(clock, dark) for clock in [*NO_INTEGERS, Unequal()]]
    return values + [(0, state) for state in no_states(house)]


def random_log(house, draw):
    size = draw.randrange(7)
    states = [state_of(house, draw.randrange(house.hues ** house.count)) for _ in range(size)]
    clocks = [draw.randrange(-3, 6) for _ in range(size)]
    if draw.random() < 0.7:
        clocks.sort()
    return [*zip(clocks, states)]


class FollowsTest(FaultTest):
    """Point 75."""

    def test_ordinary_entries(self):
        house = chain(2, 3)
        self.assertIs(follows(house, (10, (2, 0)), (13, (0, 0))), True)
        self.assertIs(follows(house, (10, (2, 0)), (16, (0, 0))), True)
        self.assertIs(follows(house, (-7, (2, 0)), (-4, (0, 0))), True)
        for clock in (7, 10, 11, 12, 14, 15, 17, 19):
            self.assertIs(follows(house, (10, (2, 0)), (clock, (0, 0))), False)
        self.assertIs(follows(house, (10, (0, 0)), (13, (2, 0))), False)
        self.assertIs(follows(house, (10, (0, 0)), (7, (2, 0))), False)

    def test_equal_entries(self):
        for house in [*SMALL, *great_houses()]:
            for state in (dark_state(house), bright_state(house)):
                self.assertIs(follows(house, (5, state), (5, state)), True)
                self.assertIs(follows(house, (5, state), (5 + house.hues, state)), False)

    def test_agrees_with_search(self):
        for house in SMALL:
            lengths = lengths_by_hand(house)
            most = max(max(some) for some in lengths.values())
            for source in all_states(house):
                for target in all_states(house):
                    expected = [gap in lengths.get((source, target), ()) for gap in range(-2, most + 3)]
                    found = [follows(house, (9, source), (9 + gap, target)) for gap in range(-2, most + 3)]
                    self.assertEqual(found, expected)

    def test_a_house_of_16_lamps(self):
        house = chain(16, 10)
        state = (1,) + (0,) * 15
        self.assertIs(follows(house, (0, state), (10 ** 15, (0,) * 16)), True)
        self.assertIs(follows(house, (0, state), (10 ** 15 - 5, (0,) * 16)), False)
        self.assertIs(follows(house, (0, state), (10 ** 15 + 10, (0,) * 16)), False)
        self.assertIs(follows(house, (-10 ** 15, state), (0, (0,) * 16)), True)

    def test_values_that_are_no_entries(self):
        house = floors([2, 1], 3)
        for value in no_entries(house):
            self.assert_fault(InvalidEntry, {"index": 0}, follows, house, value, "no entry")
            self.assert_fault(InvalidEntry, {"index": 1}, follows, house, (0, (0, 0, 0)), value)


class KeptTest(FaultTest):
    """Points 75 and 76: the longest kept list and the groups."""

    def test_ordinary_log(self):
        house = chain(2, 3)
        log = [(0, (2, 0)), (1, (2, 2)), (1, (1, 2)), (2, (0, 1)), (5, (0, 0)), (4, (0, 2)), (6, (0, 0))]
        self.assertEqual(longest_kept(house, log), [0, 2, 5, 6])
        self.assertEqual(groups(house, log), [[0, 1, 4], [2], [3, 5], [6]])

    def test_empty_log(self):
        for house in SMALL:
            self.assertEqual(longest_kept(house, []), [])
            self.assertEqual(groups(house, []), [])
            self.assertIs(is_mended(house, [], [], []), True)
            self.assertIs(is_mended(house, [], [], [[]]), False)
            self.assertIs(is_mended(house, [], [0], [[0]]), False)
            self.assertIs(is_mended(house, [], (), []), False)
            self.assertIs(is_mended(house, [], [], ()), False)

    def test_equal_entries(self):
        house = chain(2, 3)
        log = [(3, (1, 1))] * 4
        self.assertEqual(longest_kept(house, log), [0, 1, 2, 3])
        self.assertEqual(groups(house, log), [[0], [1], [2], [3]])

    def test_the_smallest_of_several_longest_kept_lists(self):
        house = chain(2, 3)
        log = [(0, (1, 0)), (0, (1, 0)), (1, (0, 2)), (1, (0, 2))]
        self.assertEqual(longest_kept(house, log), [0, 1, 2, 3])
        log = [(2, (0, 0)), (0, (0, 2)), (1, (0, 2)), (1, (0, 1)), (2, (0, 1))]
        # Both 1, 3 and 2, 4 are kept lists.
        self.assertEqual(longest_kept(house, log), [1, 3])
        self.assertEqual(groups(house, log), [[0, 1, 2], [3, 4]])
        # Entry 0 follows entry 1 by its clock, but it comes before it.
        log = [(5, (0, 1)), (4, (0, 2)), (6, (0, 0))]
        self.assertEqual(longest_kept(house, log), [0, 2])
        log = [(1, (1, 0)), (0, (1, 1)), (2, (1, 1)), (3, (1, 0))]
        self.assertEqual(longest_kept(house, log), [2, 3])

    def test_agree_with_search(self):
        draw = random.Random(7)
        for house in SMALL:
            lengths = lengths_by_hand(house)
            for _ in range(30):
                log = random_log(house, draw)
                checker = Checker(lengths, log)
                kept, parts = longest_kept(house, log), groups(house, log)
                self.assertEqual(kept, checker.longest())
                self.assertEqual(parts, checker.groups())
                self.assertEqual(len(kept), len(parts))
                self.assertIs(is_mended(house, log, kept, parts), True)

    def test_a_true_log(self):
        house = hillside(4, 4, 10)
        log = [(hue, (0,) * 15 + (9 - hue,)) for hue in range(10)]
        self.assertEqual(longest_kept(house, log), list(range(10)))
        self.assertEqual(groups(house, log), [[index] for index in range(10)])
        log.insert(4, (3, (1,) * 16))
        self.assertEqual(longest_kept(house, log), [0, 1, 2, 3, 5, 6, 7, 8, 9, 10])
        self.assertEqual(groups(house, log)[0], [0, 4])

    def test_a_long_log(self):
        house = House(1, 10)
        log = [(number % 10, (9 - number % 10,)) for number in range(60)]
        kept, parts = longest_kept(house, log), groups(house, log)
        self.assertEqual((kept[:11], len(kept), len(parts)), ([0, 1, 2, 3, 4, 5, 6, 7, 8, 9, 19], 15, 15))
        self.assertIs(is_mended(house, log, kept, parts), True)

    def test_the_log_is_not_changed_and_lists_are_new(self):
        house = chain(2, 3)
        log = [(0, (1, 0)), (1, (0, 2)), (0, (2, 2))]
        for function in (longest_kept, groups):
            kept = function(house, log)
            function(house, log).clear()
            self.assertEqual(function(house, log), kept)
        groups(house, log)[0].clear()
        self.assertEqual(groups(house, log), [[0, 2], [1]])
        kept, parts = [0, 1], [[0, 2], [1]]
        self.assertIs(is_mended(house, log, kept, parts), True)
        self.assertEqual((log, kept, parts), ([(0, (1, 0)), (1, (0, 2)), (0, (2, 2))], [0, 1], [[0, 2], [1]]))

    def test_logs_with_another_entry(self):
        house = floors([2, 1], 3)
        right = (0, (0, 0, 0))
        for value in no_entries(house):
            for index in (0, 1, 3):
                log = [right] * index + [value, right, "no entry"]
                for function in (longest_kept, groups):
                    self.assert_fault(InvalidEntry, {"index": index}, function, house, log)
                self.assert_fault(InvalidEntry, {"index": index}, is_mended, house, log, None, None)


class MendedTest(FaultTest):
    """Point 76: the check of a mended log."""

    HOUSE = chain(2, 3)
    LOG = [(0, (2, 0)), (1, (2, 2)), (1, (1, 2)), (2, (0, 1)), (2, (1, 1)), (5, (0, 0)), (3, (0, 0))]

    def setUp(self):
        self.kept = longest_kept(self.HOUSE, self.LOG)
        self.parts = groups(self.HOUSE, self.LOG)
        self.checker = Checker(lengths_by_hand(self.HOUSE), self.LOG)

    def check(self, kept, parts):
        self.assertIs(is_mended(self.HOUSE, self.LOG, kept, parts), self.checker.is_mended(kept, parts))

    def test_made_pair(self):
        self.assertEqual((self.kept, self.parts), ([0, 2, 3, 6], [[0, 1, 5], [2], [3, 4], [6]]))
        self.check(self.kept, self.parts)
        self.assertIs(is_mended(self.HOUSE, self.LOG, self.kept, self.parts), True)

    def test_other_parts_than_the_groups(self):
        for parts in ([[0, 1], [2], [3, 4], [5, 6]], [[0, 5], [1, 2], [3, 4], [6]], [[0, 1], [2], [3, 4, 5], [6]]):
            self.assertIs(is_mended(self.HOUSE, self.LOG, self.kept, parts), True)
            self.check(self.kept, parts)
        self.assertIs(is_mended(self.HOUSE, self.LOG, self.kept, self.parts[::-1]), True)
        self.assertIs(is_mended(self.HOUSE, self.LOG, self.kept, [[0, 2], [1], [3, 4, 5], [6]]), False)

    def test_kept_changed_in_one_place(self):
        for other in [*range(-2, 9), 10 ** 30]:
            for place in range(len(self.kept)):
                self.check(self.kept[:place] + [other] + self.kept[place + 1:], self.parts)
                self.check(self.kept[:place] + [other] + self.kept[place:], self.parts)
            self.check([*self.kept, other], self.parts)
        for place in range(len(self.kept)):
            self.check(self.kept[:place] + self.kept[place + 1:], self.parts)
        self.check(self.kept[::-1], self.parts)
        self.check([], self.parts)

    def test_parts_changed_in_one_place(self):
        for at, part in enumerate(self.parts):
            before, behind = self.parts[:at], self.parts[at + 1:]
            for place in range(len(part)):
                for other in [*range(-2, 9), 10 ** 30]:
                    self.check(self.kept, [*before, part[:place] + [other] + part[place + 1:], *behind])
                    self.check(self.kept, [*before, part[:place] + [other] + part[place:], *behind])
                self.check(self.kept, [*before, part[:place] + part[place + 1:], *behind])
                self.check(self.kept, [*before, part[:place], part[place:], *behind])
            self.check(self.kept, [*before, part[::-1], *behind])
            self.check(self.kept, [*before, *behind])
            self.check(self.kept, [*before, [], part, *behind])
            self.check(self.kept, [*before, part, part, *behind])
            self.check(self.kept, [*before, part + [7], *behind])
        for index in range(7):
            for at in range(4):
                moved = [[other for other in part if other != index] for part in self.parts]
                moved[at] = sorted([*moved[at], index])
                self.check(self.kept, moved)

    def test_all_kept_lists_and_partings(self):
        house, lengths = self.HOUSE, lengths_by_hand(self.HOUSE)
        for log in (self.LOG[:4], self.LOG[2:6], [(1, (1, 1)), (1, (1, 1)), (0, (2, 2)), (2, (1, 0))]):
            checker = Checker(lengths, log)
            kept_lists = [list(some) for size in range(5) for some in combinations(range(4), size)]
            places = [[number // 3 ** index % 3 for index in range(4)] for number in range(81)]
            for kept in kept_lists:
                for place in places:
                    parts = [[index for index in range(4) if place[index] == at] for at in range(3)]
                    for some in (parts, [part for part in parts if part]):
                        self.assertIs(is_mended(house, log, kept, some), checker.is_mended(kept, some))

    def test_values_of_other_kinds(self):
        wrong = [None, True, False, 0, 4, "", "0236", b"", (), {}, {0: 0}, 1.0, Unequal(), [Unequal()], [None], [[[]]]]
        for value in [*wrong, tuple(self.kept), {index: index for index in self.kept}, [self.kept], "0"]:
            self.assertIs(is_mended(self.HOUSE, self.LOG, value, self.parts), False)
        for value in [*wrong, tuple(self.parts), [tuple(part) for part in self.parts], self.kept, [self.parts]]:
            self.assertIs(is_mended(self.HOUSE, self.LOG, self.kept, value), False)
        self.assertIs(is_mended(self.HOUSE, self.LOG, Unequal(), Unequal()), False)

    def test_items_of_other_kinds(self):
        for wrong in [*NO_INTEGERS, Unequal(), 1.5, float("nan")]:
            for place in range(4):
                kept = [*self.kept[:place], wrong, *self.kept[place + 1:]]
                self.assertIs(is_mended(self.HOUSE, self.LOG, kept, self.parts), False)
                parts = [*self.parts[:place], [wrong], *self.parts[place + 1:]]
                self.assertIs(is_mended(self.HOUSE, self.LOG, self.kept, parts), False)
                if not isinstance(wrong, list):
                    parts = [*self.parts[:place], wrong, *self.parts[place + 1:]]
                    self.assertIs(is_mended(self.HOUSE, self.LOG, self.kept, parts), False)
        # True equals 1 and 0.0 equals 0, but neither is an integer.
        self.assertIs(is_mended(self.HOUSE, self.LOG, [0, 2, 3, 6], [[0, True, 5], [2], [3, 4], [6]]), False)
        self.assertIs(is_mended(self.HOUSE, self.LOG, [0.0, 2, 3, 6], self.parts), False)
        self.assertIs(is_mended(self.HOUSE, self.LOG, [False, 2, 3, 6], self.parts), False)

    def test_a_list_that_contains_itself(self):
        loop = []
        loop.append(loop)
        self.assertIs(is_mended(self.HOUSE, self.LOG, loop, self.parts), False)
        self.assertIs(is_mended(self.HOUSE, self.LOG, self.kept, loop), False)
