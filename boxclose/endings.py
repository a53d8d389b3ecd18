"""Endings of long chains and rings: point [8] and point [9] of the document."""

from boxclose.checks import GROUND, MOST_BOXES, MOST_SIDES, is_number
from boxclose.errors import BadEnding

MOST_PARTS = 8
SHORTEST = {"chain": 3, "ring": 4}
LONGEST = 1000
# Who leaves two boxes of a chain, or four of a ring, misses them, and the other one has them.
LESS_WHERE_LEFT = {"chain": 4, "ring": 8}


def ending(chains, rings):
    """The worth of an ending."""
    check_ending(chains, rings)
    return worths_of(parts_of(chains, rings))[-1]


def openings(chains, rings):
    """The best openings of an ending: pairs of a kind and a length, chains first, by length."""
    check_ending(chains, rings)
    parts = parts_of(chains, rings)
    worths = worths_of(parts)
    whole = len(worths) - 1
    found = []
    for at, part in enumerate(parts):
        if lost_by(parts, worths, whole, at) == -worths[whole] and part not in found:
            found.append(part)
    return found


def ending_net(chains, rings):
    """The net of an ending, chains first, or None where it has no box or too much for a net."""
    check_ending(chains, rings)
    boxes = sum(chains) + sum(rings)
    # A ring has a side for each box, a chain one more.
    if boxes == 0 or boxes > MOST_BOXES or boxes + len(chains) > MOST_SIDES:
        return None
    sides = []
    first = 0
    for kind, length in parts_of(chains, rings):
        sides.extend(part_sides(kind, first, first + length - 1))
        first += length
    return (boxes, sorted(sides))


def reply(kind, length, chains, rings):
    """Whether it is better to take all of an opened chain or ring, to leave some, or either."""
    if not isinstance(kind, str) or kind not in SHORTEST or not is_length(length, kind):
        raise BadEnding("no chain and no ring")
    takes, leaves = both_replies(kind, length, ending(chains, rings))
    if takes == leaves:
        return "either"
    return "all" if takes > leaves else "leave"


def is_length(thing, kind):
    """Whether it is a number of boxes that a chain, or a ring, of an ending may have."""
    return is_number(thing) and SHORTEST[kind] <= thing <= LONGEST


def are_lengths(thing, kind):
    """Whether it is a list of lengths of chains, or of rings, that never falls."""
    if not isinstance(thing, list) or not all([is_length(length, kind) for length in thing]):
        return False
    return thing == sorted(thing)


def check_ending(chains, rings):
    """Refuse what is no ending."""
    if not are_lengths(chains, "chain") or not are_lengths(rings, "ring"):
        raise BadEnding("no chains and rings of an ending")
    if len(chains) + len(rings) > MOST_PARTS:
        raise BadEnding("too many chains and rings")


def parts_of(chains, rings):
    """The chains, then the rings: pairs of a kind and a length."""
    return [("chain", length) for length in chains] + [("ring", length) for length in rings]


def both_replies(kind, length, rest):
    """How many boxes more the hand gets that finds this one opened: if it takes all, and if it leaves some.

    rest is the worth of the others.
    """
    return (length + rest, length - LESS_WHERE_LEFT[kind] - rest)


def lost_by(parts, worths, bits, at):
    """How many boxes more the other hand gets where this one of the parts of the bits is opened."""
    kind, length = parts[at]
    return max(both_replies(kind, length, worths[bits ^ 1 << at]))


def worths_of(parts):
    """The worth of each choice of the parts, by its bits: bit k is set where part k is chosen."""
    worths = [0]
    for bits in range(1, 1 << len(parts)):
        chosen = [at for at in range(len(parts)) if bits >> at & 1]
        worths.append(-min([lost_by(parts, worths, bits, at) for at in chosen]))
    return worths


def part_sides(kind, first, last):
    """The sides of a chain or ring of the boxes from first to last."""
    between = [(box, box + 1) for box in range(first, last)]
    if kind == "ring":
        return between + [(first, last)]
    return between + [(GROUND, first), (GROUND, last)]
