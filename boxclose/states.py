"""States as bits: bit k of a state's bits is set where side k is drawn."""

from boxclose.checks import GROUND


def bits_of(drawn):
    """The bits of the state with these drawn sides."""
    return sum([1 << side for side in drawn])


def full_bits(many):
    """The bits of the state in which all of so many sides are drawn."""
    return (1 << many) - 1


def sides_of_boxes(net):
    """For each box the bits of its sides."""
    boxes, sides = net
    found = [0] * boxes
    for at, pair in enumerate(sides):
        for box in pair:
            if box != GROUND:
                found[box] |= 1 << at
    return found


def rims_of(net):
    """For each side, of each box that it stands at, the bits of that box's sides."""
    by_box = sides_of_boxes(net)
    return [[by_box[box] for box in pair if box != GROUND] for pair in net[1]]


def gain(rims, bits, side):
    """How many boxes a free side closes when it is drawn in the state of the bits."""
    after = bits | 1 << side
    return sum([1 for rim in rims[side] if after & rim == rim])


def free_of(many, bits):
    """The free sides, of so many sides, of the state of the bits, rising."""
    return [side for side in range(many) if not bits >> side & 1]


def states_back(start, many):
    """The bits of all states that come from start, start too, each behind all that come from it.

    The state in which all sides are drawn is left out.
    """
    # A drawn side only adds a bit, so a state's bits are below those of all that come from it.
    return [bits for bits in range(full_bits(many) - 1, start - 1, -1) if bits & start == start]


def drawn_of(many, bits):
    """The drawn sides, of so many sides, of the state of the bits, rising."""
    return [side for side in range(many) if bits >> side & 1]


def steps_by(sides, rims, bits, own):
    """What may come behind a spot: pairs of how many boxes are closed and the spot then.

    A spot is a state's bits and whether the hand draws there that draws by the sides, which are told by
    their states' bits; the other one draws any free side. The turn doesn't follow from the bits: two boxes
    may be closed at once or one behind the other.
    """
    steps = []
    for side in free_of(len(rims), bits):
        if not own or sides.get(bits) == side:
            gained = gain(rims, bits, side)
            # Who closes a box draws again, else the other one does.
            steps.append((gained, (bits | 1 << side, own if gained > 0 else not own)))
    return steps


def spots_by(sides, rims, start, own):
    """The steps of each spot that comes from a first one, that one too, by the spot.

    Each spot stands behind all that it comes from. Where no side is told to the hand, nothing comes behind.
    """
    spots = {}
    reached = {(start, own): True}
    for bits in range(start, full_bits(len(rims)) + 1):
        for turn in (True, False):
            if (bits, turn) in reached:
                steps = steps_by(sides, rims, bits, turn)
                spots[(bits, turn)] = steps
                for _, spot in steps:
                    reached[spot] = True
    return spots
