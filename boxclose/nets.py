"""Nets, states and floors: point [2] and point [3] of the document."""

from boxclose.checks import GROUND, MOST_SIDES, check_state, is_count, is_number
from boxclose.errors import BadFloor, BadSide
from boxclose.states import bits_of, free_of, gain, rims_of

MOST_FLOOR_BOXES = 4


def opened(net, drawn):
    """For each box how many of its sides aren't drawn."""
    check_state(net, drawn)
    return count_open(net, drawn)


def count_open(net, drawn):
    """As opened, of a state that is known to be one."""
    boxes, sides = net
    counts = [0] * boxes
    for at, pair in enumerate(sides):
        for box in pair:
            if box != GROUND and at not in drawn:
                counts[box] += 1
    return counts


def closed(net, drawn):
    """The boxes of which all sides are drawn, rising."""
    check_state(net, drawn)
    return [box for box, many in enumerate(count_open(net, drawn)) if many == 0]


def free(net, drawn):
    """The sides that aren't drawn, rising."""
    check_state(net, drawn)
    return free_of(len(net[1]), bits_of(drawn))


def draw(net, drawn, side):
    """The drawn sides behind a free side that is drawn, and how many boxes it closes."""
    check_state(net, drawn)
    if not is_count(side, len(net[1])) or side in drawn:
        raise BadSide("no free side of the state")
    return (sorted(drawn + [side]), gain(rims_of(net), bits_of(drawn), side))


def floor_net(rows, columns):
    """The net of a floor of so many rows and columns."""
    if not is_length(rows) or not is_length(columns) or rows * columns > MOST_FLOOR_BOXES:
        raise BadFloor("no rows and columns of a floor")
    sides = floor_sides(rows, columns)
    # Four boxes in a row have a side too many, four in a square have just as many as may be.
    if len(sides) > MOST_SIDES:
        raise BadFloor("a floor of too many sides")
    return (rows * columns, sides)


def is_length(thing):
    """Whether it is a number that a floor may have of rows or of columns."""
    return is_number(thing) and 1 <= thing <= MOST_FLOOR_BOXES


def floor_sides(rows, columns):
    """The sides of a floor, in order."""
    sides = []
    for row in range(rows):
        for column in range(columns):
            box = row * columns + column
            if row + 1 < rows:
                sides.append((box, box + columns))
            if column + 1 < columns:
                sides.append((box, box + 1))
            # Alone in its row or column, a box stands at the ground on both ways of it.
            at_ends = [row == 0, row == rows - 1, column == 0, column == columns - 1]
            sides.extend([(GROUND, box) for at_end in at_ends if at_end])
    return sorted(sides)
