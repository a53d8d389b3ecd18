"""Nets made of others, renamed and put beside one another: point [10] of the document."""

from boxclose.checks import GROUND, MOST_BOXES, MOST_SIDES, check_net, is_count
from boxclose.errors import BadOrder, TooMany


def renamed(net, order):
    """The net in which the box that stands at place k of the order is box k."""
    check_net(net)
    boxes, sides = net
    if not is_order(order, boxes):
        raise BadOrder("no order of all boxes")
    names = {GROUND: GROUND}
    for place, box in enumerate(order):
        names[box] = place
    return (boxes, sorted([rising_pair(names[low], names[high]) for low, high in sides]))


def beside(net, other):
    """The net of two nets, the second one's boxes behind the first one's."""
    check_net(net)
    check_net(other)
    boxes = net[0] + other[0]
    sides = shifted(net[1], 0) + shifted(other[1], net[0])
    if boxes > MOST_BOXES or len(sides) > MOST_SIDES:
        raise TooMany("more boxes or sides than a net may have")
    return (boxes, sorted(sides))


def is_order(thing, boxes):
    """Whether it is a list of all boxes, each once."""
    if not isinstance(thing, list) or not all([is_count(box, boxes) for box in thing]):
        return False
    return sorted(thing) == list(range(boxes))


def rising_pair(one, other):
    """A pair of the lesser and the greater."""
    return (min(one, other), max(one, other))


def shifted(sides, by):
    """The sides of boxes so many places further behind; the ground stays."""
    return [(low if low == GROUND else low + by, high + by) for low, high in sides]
