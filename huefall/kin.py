"""Rules of moves: what a move turns, when it is allowed, and which states a rule reaches."""

from huefall.errors import DarkLamp, InvalidState, LitBeneath, NotReachable
from huefall.formulas import greatest_under, weights_under, worth_under
from huefall.house import check_lamp
from huefall.lengths import MOST_MOVES
from huefall.placing import check_length, placed_carefully, placed_run
from huefall.states import is_state


class Kin:
    """The rule of free moves. Its subclasses change what a move turns, when it is allowed, and so on."""

    LABEL = "free"

    def __init__(self, house):
        self.house = house

    def turned(self, lamp):
        """The lamps that a move at the lamp turns besides it, ascending."""
        return self.house.beneath(lamp)

    def factor(self, lamp):
        """The number of moves that the lamp gains when another move turns it."""
        check_lamp(self.house, lamp)
        return self.house.hues - 1

    def is_state(self, value):
        """True if the value is a state of the rule. Takes any value."""
        return is_state(self.house, value)

    def allowed(self, state, lamp):
        """True if the move at the lamp is allowed."""
        check_state_of(self, state)
        check_lamp(self.house, lamp)
        return state[lamp] > 0

    def after(self, state, lamp):
        """The state after the move at the lamp."""
        if not self.allowed(state, lamp):
            if state[lamp] == 0:
                raise DarkLamp(lamp, 0)
            raise LitBeneath(lamp, 0, self.lit_turned(state, lamp)[0])
        hues = list(state)
        hues[lamp] -= 1
        for lower in self.turned(lamp):
            hues[lower] = self.turned_hue(lower, hues[lower])
        return tuple(hues)

    def greatest(self, source, target):
        """The list of the greatest counts. Some are negative if the target cannot be reached."""
        check_state_of(self, source)
        check_state_of(self, target)
        return greatest_under(self.house.order(), self.all_turned(), self.factors(), source, target)

    def reaches(self, source, target):
        """True if allowed moves lead from the source to the target."""
        return min(self.greatest(source, target)) >= 0

    def worth(self, state):
        """The sum of hue times weight under the rule."""
        check_state_of(self, state)
        return worth_under(weights_under(self.house.order(), self.all_turned(), self.factors()), state)

    def run(self, source, target, *, limit=MOST_MOVES):
        """The run of allowed moves from the source to the target that has the greatest counts."""
        counts = self.greatest(source, target)
        for lamp in self.house.order():
            if counts[lamp] < 0:
                raise NotReachable(lamp)
        check_length(sum(counts), limit)
        return self.run_of_counts(source, counts)

    def turned_hue(self, lamp, hue):
        """The hue of the lamp after a move that turns it. The arguments are not checked."""
        return (hue - 1) % self.house.hues

    def lit_turned(self, state, lamp):
        """The lit lamps that a move at the lamp turns besides it, ascending."""
        return [lower for lower in self.turned(lamp) if state[lower] > 0]

    def all_turned(self):
        """For each lamp the list of the lamps that a move at it turns."""
        return [self.turned(lamp) for lamp in range(self.house.count)]

    def factors(self):
        """The list of the factors of the lamps."""
        return [self.factor(lamp) for lamp in range(self.house.count)]

    def run_of_counts(self, source, counts):
        """The run from the source with these numbers of moves. The arguments are not checked."""
        lamps = range(self.house.count)
        turned = self.all_turned()
        turners = [[upper for upper in lamps if lower in turned[upper]] for lower in lamps]
        order = self.house.order()
        return placed_run(order, source, counts, turners, lambda lamp, hue: self.turned_hue(lamp, hue))


class CarefulKin(Kin):
    """The rule of careful moves: all lamps that a move turns besides its own must be dark."""

    LABEL = "careful"

    def allowed(self, state, lamp):
        """True if the move at the lamp is allowed."""
        return super().allowed(state, lamp) and not self.lit_turned(state, lamp)

    def run_of_counts(self, source, counts):
        """The run from the source with these numbers of moves. The arguments are not checked."""
        return placed_carefully(self.house.hues - 1, source, counts, self.all_turned())


class WiredKin(Kin):
    """The rule under which a move turns only the lamps directly beneath."""

    LABEL = "wired"

    def turned(self, lamp):
        """The lamps that a move at the lamp turns besides it, ascending."""
        return self.house.direct(lamp)


class CarefulWiredKin(CarefulKin, WiredKin):
    """The rule with both changes."""

    LABEL = "careful wired"


def check_state_of(rule, state):
    """Raise InvalidState if the value is not a state of the rule."""
    if not rule.is_state(state):
        raise InvalidState(state)
