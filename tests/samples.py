"""Nets, states and wrong inputs that the tests share."""

from itertools import combinations, combinations_with_replacement

HUGE = 10 ** 6000

# One box with all its four sides to the ground, as a floor of one has it.
ONE = (1, [(-1, 0)] * 4)
# Two boxes that have just the one side between them.
TWIN = (2, [(0, 1)])
# Two boxes beside one another: six sides to the ground, number 6 between them.
PAIR = (2, [(-1, 0)] * 3 + [(-1, 1)] * 3 + [(0, 1)])
SQUARE = (4, [(-1, box) for box in (0, 0, 1, 1, 2, 2, 3, 3)] + [(0, 1), (0, 2), (1, 3), (2, 3)])
# Three boxes in a chain, between the ground and the ground.
CHAIN = (3, [(-1, 0), (-1, 2), (0, 1), (1, 2)])
# Four boxes round in a ring.
RING = (4, [(0, 1), (0, 3), (1, 2), (2, 3)])
# Nine boxes, a side each; and nine boxes with twelve sides.
NINE = (9, [(-1, box) for box in range(9)])
NINE_FULL = (9, [(-1, box) for box in range(4)] + [(box, box + 1) for box in range(8)])
# As many alike sides as a net may have.
ALIKE = (1, [(-1, 0)] * 12)
KINDRED = (3, [(-1, 0), (0, 1), (0, 1), (0, 1), (0, 2), (1, 2)])

NETS = [ONE, TWIN, PAIR, CHAIN, RING, NINE, KINDRED]
WIDEST = [SQUARE, NINE_FULL, ALIKE]


class Stranger:
    """A thing of a kind that no door asks for."""


def knotted():
    """A list that holds itself."""
    ring = []
    ring.append(ring)
    return ring


# No number, no list and no pair each.
STRAYS = [None, True, False, "", "0", "net", b"", b"0", {}, {0: 1}, set(), {0}, range(2),
          Stranger(), Stranger, len]
# No number.
NO_NUMBERS = STRAYS + [[], [0], (), (0,), (0, 0), knotted()]

NO_NETS = STRAYS + [
    0, 1, -1, HUGE, -HUGE, [], (), knotted(),
    (1,), (1, [(-1, 0)], 0), [1, [(-1, 0)]], ((-1, 0), 1), ([(-1, 0)], 1), [(-1, 0)],
    (None, [(-1, 0)]), ("1", [(-1, 0)]), (True, [(-1, 0)]), ([1], [(-1, 0)]),
    (0, []), (0, [(-1, 0)]), (-1, []), (-1, [(-1, 0)]), (-HUGE, [(-1, 0)]),
    (HUGE, [(-1, 0)]), (10, [(-1, box) for box in range(10)]),
    (1, None), (1, "sides"), (1, 1), (1, {}), (1, {(-1, 0): 1}), (1, {(-1, 0)}),
    (1, ()), (1, ((-1, 0),)), (1, knotted()),
    (1, []), (2, [(-1, 0)]), (2, [(-1, 1)]), (3, [(0, 2)]), (9, [(-1, box) for box in range(8)]),
    (1, [(-1, 0)] * 13), (1, [(-1, 0)] * 1000),
    (1, [-1, 0]), (1, ["ab"]), (1, [None]), (1, [[-1, 0]]), (1, [(-1, 0), [-1, 0]]),
    (1, [()]), (1, [(-1,)]), (1, [(-1, 0, 0)]), (1, [{-1: 0, 0: 1}]),
    (1, [(0, 0)]), (1, [(0, -1)]), (1, [(-1, -1)]), (1, [(-2, 0)]), (1, [(-1, 1)]), (1, [(0, 1)]),
    (2, [(1, 0)]), (2, [(0, 1), (1, 1)]), (2, [(0, 1), (0, 2)]), (2, [(-2, 1), (0, 1)]),
    (1, [(-1, False)]), (2, [(-1, 0), (-1, True)]), (2, [(False, 1)]), (2, [(0, True)]),
    (1, [("-1", 0)]), (1, [(-1, "0")]), (1, [(None, 0)]), (1, [(-1, None)]), (1, [(-1, [0])]),
    (1, [(-1, HUGE)]), (1, [(-HUGE, 0)]), (1, [(-1, 0), (HUGE, HUGE + 1)]),
    (2, [(0, 1), (-1, 0)]), (2, [(-1, 1), (-1, 0)]), (3, [(-1, 0), (1, 2), (0, 1)]),
]


def no_drawn(many):
    """What are no drawn sides of a net of so many sides, 2 at the least."""
    return STRAYS + [
        0, 1, HUGE, (), (0,), (0, 1), knotted(), [None], [True], [False], [0, True], [False, 1],
        ["0"], [b"0"], [[]], [[0]], [(0,)], [{}], [0, None], [0, "1"],
        [-1], [-1, 0], [many], [0, many], [HUGE], [-HUGE], [0, 0], [1, 1], [1, 0], [0, 1, 1],
        list(range(many + 1)), list(range(many)) * 2, [0] * 1000,
    ]


def all_drawn(net):
    """All lists of drawn sides that a net has."""
    many = len(net[1])
    return [list(some) for size in range(many + 1) for some in combinations(range(many), size)]


def small_nets():
    """All nets of one to three boxes and at most four sides."""
    found = []
    for boxes in (1, 2, 3):
        kinds = [(low, high) for low in range(-1, boxes) for high in range(low + 1, boxes)]
        for many in (1, 2, 3, 4):
            for sides in combinations_with_replacement(kinds, many):
                if all(any(box in side for side in sides) for box in range(boxes)):
                    found.append((boxes, list(sides)))
    return found


def fresh(net):
    """The net, made anew, so that a test may spoil it."""
    return (net[0], list(net[1]))


def no_lengths(shortest):
    """What are no lengths of chains or of rings, of which the shortest is told."""
    right = shortest + 1
    return STRAYS + [
        right, HUGE, (), (right,), (right, right), knotted(), [None], [True], [False], [right, True], ["4"], [b"4"],
        [[]], [[right]], [(right,)], [{}], [right, None], [None, right], [right, "5"],
        [0], [1], [-1], [-right], [shortest - 1], [shortest - 1, right], [1001], [right, 1001], [HUGE], [-HUGE],
        [right, shortest], [1000, shortest], [shortest, 1000, 999], [right] * 9, [right] * 1000,
    ]


def small_endings():
    """All endings of at most 9 boxes, the one of none too."""
    chains = [list(some) for many in range(4) for some in combinations_with_replacement(range(3, 10), many)]
    rings = [list(some) for many in range(3) for some in combinations_with_replacement(range(4, 10), many)]
    return [(some, others) for some in chains for others in rings if sum(some) + sum(others) <= 9]
