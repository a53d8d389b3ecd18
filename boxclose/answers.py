"""The two answers to a state and a number, and whether their plans hold: point [7] of the document."""

from boxclose.checks import are_drawn, is_count, is_pair
from boxclose.states import bits_of, full_bits, rims_of, spots_by


class Answer:
    """What is told of a state and a number: a plan of one of the two hands."""


class Gets(Answer):
    """A plan of the hand that draws next, by which it gets so many boxes more at the least."""

    def __init__(self, plan):
        self.plan = copy_plan(plan)

    def shows(self, net, drawn, least):
        """Whether the plan, as it stands now, is such a one of the state and the number."""
        sure = sure_of(self.plan, net, drawn, True)
        return sure is not None and sure >= least


class Held(Answer):
    """A plan of the other hand, by which the one that draws next gets fewer boxes more than so many."""

    def __init__(self, plan):
        self.plan = copy_plan(plan)

    def shows(self, net, drawn, least):
        """Whether the plan, as it stands now, is such a one of the state and the number."""
        sure = sure_of(self.plan, net, drawn, False)
        # What the one hand gets more at the least is what the other one gets fewer at the least.
        return sure is not None and -sure < least


def copy_plan(plan):
    """The plan, made anew, lists within, too."""
    return [(list(drawn), side) for drawn, side in plan]


def is_plan(thing, many):
    """Whether it is a plan on a net of so many sides."""
    if not isinstance(thing, list) or not all([is_advice(pair, many) for pair in thing]):
        return False
    states = [pair[0] for pair in thing]
    return all([low < high for low, high in zip(states, states[1:])])


def is_advice(thing, many):
    """Whether it is a pair of drawn sides, of so many sides, and a free side of that state."""
    if not is_pair(thing):
        return False
    drawn, side = thing
    return are_drawn(drawn, many) and is_count(side, many) and side not in drawn


def sure_of(plan, net, drawn, own):
    """How many boxes more the hand that follows the plan gets at the least, whatever the other one draws.

    own tells whether that hand draws next. None where it is no plan, or leaves that hand without a side.
    """
    many = len(net[1])
    if not is_plan(plan, many):
        return None
    sides = {bits_of(state): side for state, side in plan}
    start = bits_of(drawn)
    spots = spots_by(sides, rims_of(net), start, own)
    if any([turn and bits != full_bits(many) and bits not in sides for bits, turn in spots]):
        return None
    return least_of(spots)[(start, own)]


def least_of(spots):
    """How many boxes more the hand whose turn is told as True gets at the least, by the spot."""
    least = {}
    for spot in reversed(list(spots)):
        sign = 1 if spot[1] else -1
        # Of that hand's own spots there is one step, of the other one's the one that is best for the other.
        least[spot] = min([sign * gained + least[after] for gained, after in spots[spot]], default=0)
    return least
