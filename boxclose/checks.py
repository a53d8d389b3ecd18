"""What is a net and what are drawn sides of it: the checks that every door begins with."""

from boxclose.errors import BadDrawn, BadNet

GROUND = -1
MOST_BOXES = 9
MOST_SIDES = 12


def is_number(thing):
    """Whether it is a whole number; True and False are none."""
    return isinstance(thing, int) and not isinstance(thing, bool)


def is_count(thing, many):
    """Whether it is one of the numbers 0, 1, .. below many."""
    return is_number(thing) and 0 <= thing < many


def is_pair(thing):
    """Whether it is a tuple of two."""
    return isinstance(thing, tuple) and len(thing) == 2


def is_side(thing, boxes):
    """Whether it is a pair of a box, or the ground, and a greater box."""
    if not is_pair(thing):
        return False
    low, high = thing
    return is_number(low) and is_number(high) and GROUND <= low < high < boxes


def are_sides(thing, boxes):
    """Whether it is a list of sides in order, not too many."""
    if not isinstance(thing, list) or len(thing) > MOST_SIDES:
        return False
    return all([is_side(side, boxes) for side in thing]) and thing == sorted(thing)


def has_side(box, sides):
    """Whether one of the sides at least is the box's."""
    return any([box in side for side in sides])


def is_net(thing):
    """Whether it is a net."""
    if not is_pair(thing):
        return False
    boxes, sides = thing
    if not is_number(boxes) or not 1 <= boxes <= MOST_BOXES:
        return False
    return are_sides(sides, boxes) and all([has_side(box, sides) for box in range(boxes)])


def are_drawn(thing, many):
    """Whether it is a rising list of counts of so many sides."""
    if not isinstance(thing, list) or not all([is_count(side, many) for side in thing]):
        return False
    return thing == sorted(set(thing))


def check_net(net):
    """Refuse what is no net."""
    if not is_net(net):
        raise BadNet("no net")


def check_state(net, drawn):
    """Refuse what is no net, then what are no drawn sides of it."""
    check_net(net)
    if not are_drawn(drawn, len(net[1])):
        raise BadDrawn("no drawn sides of the net")
