"""The numbers of moves that the runs between two states have, and the runs of such lengths."""

from huefall.errors import InvalidNumber, WrongLength
from huefall.formulas import greatest_under, weights_under, worth_under
from huefall.house import check_lamp
from huefall.placing import check_length, free_run
from huefall.reach import check_reachable, reaches
from huefall.states import check_state
from huefall.tally import Tally
from huefall.whole import is_whole_in

MOST_MOVES = 1000


def least_tally(house, source, target):
    """The tally with the fewest moves at every lamp."""
    check_reachable(house, source, target)
    return Tally(least_counts(house, source, target, {}))


def greatest_tally(house, source, target):
    """The tally with the most moves at every lamp, that of every careful run."""
    check_reachable(house, source, target)
    return Tally(greatest_counts(house, source, target))


def weights(house):
    """The list of the weights of the lamps."""
    return weights_under(house.order(), lamps_beneath_each(house), free_factors(house))


def worth(house, state):
    """The sum of hue times weight: the length of every careful run to the dark state."""
    check_state(house, state)
    return worth_under(weights(house), state)


def length_range(house, source, target):
    """The triple of the least length, the step from one length to the next, and the greatest length."""
    check_reachable(house, source, target)
    least = sum(least_counts(house, source, target, {}))
    return least, house.hues, sum(greatest_counts(house, source, target))


def is_length(house, source, target, length):
    """True if some free run from the source to the target has the length."""
    check_state(house, source)
    check_state(house, target)
    if not reaches(house, source, target):
        return False
    return wrong_reason(house, source, target, length) is None


def tally_of_length(house, source, target, length):
    """The tally of the length that keeps the greatest counts at the beginning of the order list."""
    check_reachable(house, source, target)
    reason = wrong_reason(house, source, target, length)
    if reason is not None:
        raise WrongLength(length, reason)
    least = least_counts(house, source, target, {})
    counts = greatest_counts(house, source, target)
    surplus = sum(counts) - length
    for lamp in reversed(house.order()):
        # Both numbers are multiples of `hues`, and so is the smaller one.
        given_up = min(counts[lamp] - least[lamp], surplus)
        counts[lamp] -= given_up
        surplus -= given_up
    return Tally(counts)


def tally_with(house, source, target, lamp, count):
    """The tally with this count at the lamp and the greatest counts at the lamps above it."""
    check_state(house, source)
    check_state(house, target)
    check_lamp(house, lamp)
    check_reachable(house, source, target)
    least = least_counts(house, source, target, {})[lamp]
    greatest = greatest_counts(house, source, target)
    if not is_whole_in(count, least, greatest[lamp]) or (count - least) % house.hues != 0:
        raise InvalidNumber(count)
    fixed = {upper: greatest[upper] for upper in house.above(lamp)}
    fixed[lamp] = count
    return Tally(least_counts(house, source, target, fixed))


def least_run(house, source, target, *, limit=MOST_MOVES):
    """The normal run of the least tally."""
    return run_of_tally(house, source, least_tally(house, source, target), limit)


def longest_run(house, source, target, *, limit=MOST_MOVES):
    """The normal run of the greatest tally."""
    return run_of_tally(house, source, greatest_tally(house, source, target), limit)


def run_of_length(house, source, target, length, *, limit=MOST_MOVES):
    """The normal run of the tally of the length."""
    return run_of_tally(house, source, tally_of_length(house, source, target, length), limit)


def least_counts(house, source, target, fixed):
    """The smallest counts along the order list, except for the lamps whose count is fixed."""
    counts = [0] * house.count
    for lamp in house.order():
        load = sum([counts[upper] for upper in house.above(lamp)])
        counts[lamp] = fixed.get(lamp, (source[lamp] - target[lamp] - load) % house.hues)
    return counts


def greatest_counts(house, source, target):
    """The counts of the greatest tally. Some are negative if the target is not reachable."""
    return greatest_under(house.order(), lamps_beneath_each(house), free_factors(house), source, target)


def lamps_beneath_each(house):
    """For each lamp the list of the lamps that a free move at it turns."""
    return [house.beneath(lamp) for lamp in range(house.count)]


def free_factors(house):
    """For each lamp the number of moves that it gains when a move above it turns it."""
    return [house.hues - 1] * house.count


def wrong_reason(house, source, target, length):
    """Why no run has the length: "short", "long" or "rest", or None. The target must be reachable."""
    least, step, greatest = length_range(house, source, target)
    if length < least:
        return "short"
    if length > greatest:
        return "long"
    if (length - least) % step != 0:
        return "rest"
    return None


def run_of_tally(house, source, tally, limit):
    """The normal run of a tally that is known to fit."""
    check_length(tally.total, limit)
    return free_run(house, source, tally.counts)
