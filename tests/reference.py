"""A slow reckoning after the document's words, to hold the program against.

It works on boxes and lists of drawn sides alone and shares nothing with the package.
"""

from itertools import permutations


def open_sides(net, drawn, box):
    return [at for at, side in enumerate(net[1]) if box in side and at not in drawn]


def shut_boxes(net, drawn):
    return [box for box in range(net[0]) if not open_sides(net, drawn, box)]


def free_sides(net, drawn):
    return [at for at in range(len(net[1])) if at not in drawn]


def behind(net, drawn, side):
    """The drawn sides behind a side, and how many boxes it closes."""
    after = sorted(drawn + [side])
    return after, len(shut_boxes(net, after)) - len(shut_boxes(net, drawn))


def value_by(net, drawn, side, known):
    after, got = behind(net, drawn, side)
    rest = value(net, after, known)
    return got + rest if got else -rest


def value(net, drawn, known=None):
    """The worth, by all plays; known, a dict, keeps the states that were reckoned."""
    at = tuple(drawn)
    if known is not None and at in known:
        return known[at]
    sides = free_sides(net, drawn)
    found = max([value_by(net, drawn, side, known) for side in sides], default=0)
    if known is not None:
        known[at] = found
    return found


def bests(net, drawn, known=None):
    here = value(net, drawn, known)
    return [side for side in free_sides(net, drawn) if value_by(net, drawn, side, known) == here]


def score(net, drawn, sides):
    """What a play gives the two hands, and whose turn it is then."""
    got = [0, 0]
    turn = 0
    for at, side in enumerate(sides):
        closes = behind(net, sorted(drawn + sides[:at]), side)[1]
        got[turn] += closes
        if not closes:
            turn = 1 - turn
    return got[0], got[1], turn


def all_best_plays(net, drawn):
    """All best plays in the order of lists: of all orders of the free sides, those that are best throughout."""
    known = {}
    found = []
    for order in permutations(free_sides(net, drawn)):
        play = list(order)
        if all(side in bests(net, sorted(drawn + play[:at]), known) for at, side in enumerate(play)):
            found.append(play)
    return sorted(found)
