"""The worth of a state and its best sides: point [4] of the document."""

from boxclose.checks import check_state
from boxclose.states import bits_of, free_of, full_bits, gain, rims_of, states_back


def worth(net, drawn):
    """How many boxes more the hand that draws next gets than the other one, if both draw best."""
    check_state(net, drawn)
    start = bits_of(drawn)
    return reckon(rims_of(net), start)[start]


def best(net, drawn):
    """The free sides by which it comes to the worth, rising."""
    check_state(net, drawn)
    start = bits_of(drawn)
    rims = rims_of(net)
    return best_of(rims, reckon(rims, start), start)


def reckon(rims, start):
    """The worth of each state that comes from start, start too, by its bits."""
    many = len(rims)
    worths = {full_bits(many): 0}
    for bits in states_back(start, many):
        worths[bits] = max([worth_by(rims, worths, bits, side) for side in free_of(many, bits)])
    return worths


def worth_by(rims, worths, bits, side):
    """What it comes to for the hand that draws next where it draws this side."""
    gained = gain(rims, bits, side)
    rest = worths[bits | 1 << side]
    # Who closes a box draws again, so only then the rest is counted from the same hand.
    return gained + rest if gained > 0 else -rest


def best_of(rims, worths, bits):
    """The best sides of the state of the bits, rising."""
    sides = free_of(len(rims), bits)
    return [side for side in sides if worth_by(rims, worths, bits, side) == worths[bits]]
