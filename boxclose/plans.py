"""Plans that hold against each answer, or that bar: point [7] of the document."""

from boxclose.answers import Gets, Held
from boxclose.checks import check_state, is_number
from boxclose.errors import BadNumber
from boxclose.states import bits_of, drawn_of, rims_of, spots_by, states_back
from boxclose.worths import best_of, reckon


def judged(net, drawn, least):
    """A plan by which the hand that draws next gets so many boxes more, or one by which it does not."""
    check_state(net, drawn)
    if not is_number(least):
        raise BadNumber("no number")
    rims = rims_of(net)
    start = bits_of(drawn)
    worths = reckon(rims, start)
    if worths[start] >= least:
        return Gets(plan_from(rims, worths, start, True))
    return Held(plan_from(rims, worths, start, False))


def plan_from(rims, worths, start, own):
    """The plan of the hand that draws at start, or of the other one, to draw a best side wherever it comes to."""
    many = len(rims)
    sides = {bits: best_of(rims, worths, bits)[0] for bits in states_back(start, many)}
    spots = spots_by(sides, rims, start, own)
    return sorted([(drawn_of(many, bits), sides[bits]) for bits, turn in spots if turn and bits in sides])
