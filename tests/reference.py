"""A slow reckoning after the document's words, to hold the program against.

It works on boxes and lists of drawn sides alone and shares nothing with the package.
"""

from itertools import permutations


def open_sides(net, drawn, box):
    return [at for at, side in enumerate(net[1]) if box in side and at not in drawn]


def shut_boxes(net, drawn):
    return [box for box in range(net[0]) if not open_sides(net, drawn, box)]


def free_sides(net, drawn):
    return [at for at in range(len(net[1])) if at not in drawn]


def behind(net, drawn, side):
    """The drawn sides behind a side, and how many boxes it closes."""
    after = sorted(drawn + [side])
    return after, len(shut_boxes(net, after)) - len(shut_boxes(net, drawn))


def value_by(net, drawn, side, known):
    after, got = behind(net, drawn, side)
    rest = value(net, after, known)
    return got + rest if got else -rest


def value(net, drawn, known=None):
    """The worth, by all plays; known, a dict, keeps the states that were reckoned."""
    at = tuple(drawn)
    if known is not None and at in known:
        return known[at]
    sides = free_sides(net, drawn)
    found = max([value_by(net, drawn, side, known) for side in sides], default=0)
    if known is not None:
        known[at] = found
    return found


def bests(net, drawn, known=None):
    here = value(net, drawn, known)
    return [side for side in free_sides(net, drawn) if value_by(net, drawn, side, known) == here]


def score(net, drawn, sides):
    """What a play gives the two hands, and whose turn it is then."""
    got = [0, 0]
    turn = 0
    for at, side in enumerate(sides):
        closes = behind(net, sorted(drawn + sides[:at]), side)[1]
        got[turn] += closes
        if not closes:
            turn = 1 - turn
    return got[0], got[1], turn


def all_best_plays(net, drawn):
    """All best plays in the order of lists: of all orders of the free sides, those that are best throughout."""
    known = {}
    found = []
    for order in permutations(free_sides(net, drawn)):
        play = list(order)
        if all(side in bests(net, sorted(drawn + play[:at]), known) for at, side in enumerate(play)):
            found.append(play)
    return sorted(found)


def is_plan(net, plan):
    """Whether a list of pairs of lists and numbers is a plan on the net."""
    many = len(net[1])
    states = [drawn for drawn, _ in plan]
    if any(drawn != sorted(set(drawn)) or not all(0 <= side < many for side in drawn) for drawn in states):
        return False
    if any(side not in free_sides(net, drawn) for drawn, side in plan):
        return False
    return all(states[at] < states[at + 1] for at in range(len(states) - 1))


def assured(net, drawn, own, plan):
    """What the hand that follows the plan gets more at the least, over all lines; None where it tells it no side.

    own tells whether that hand draws next.
    """
    sides = free_sides(net, drawn)
    if not sides:
        return 0
    if own:
        sides = [side for state, side in plan if state == drawn]
    found = []
    for side in sides:
        after, got = behind(net, drawn, side)
        rest = assured(net, after, own if got else not own, plan)
        if rest is None:
            return None
        found.append(rest + (got if own else -got))
    return min(found, default=None)


def shows_gets(net, drawn, least, plan):
    sure = assured(net, drawn, True, plan) if is_plan(net, plan) else None
    return sure is not None and sure >= least


def shows_held(net, drawn, least, plan):
    sure = assured(net, drawn, False, plan) if is_plan(net, plan) else None
    return sure is not None and -sure < least


def without(some, one):
    rest = list(some)
    rest.remove(one)
    return rest


def opening_costs(chains, rings):
    """For each opening how many boxes more the other hand gets from there on, by the rule."""
    costs = {}
    for length in chains:
        rest = ending_value(without(chains, length), rings)
        costs["chain", length] = max(length + rest, length - 4 - rest)
    for length in rings:
        rest = ending_value(chains, without(rings, length))
        costs["ring", length] = max(length + rest, length - 8 - rest)
    return costs


def ending_value(chains, rings):
    """The worth of an ending, by the rule, every rest anew."""
    return -min(opening_costs(chains, rings).values(), default=0)
