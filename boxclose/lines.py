"""Plays and best plays: point [5] and point [6] of the document."""

from boxclose.checks import check_state, is_count
from boxclose.errors import BadNumber, BadPlay
from boxclose.states import bits_of, full_bits, gain, rims_of, states_back
from boxclose.worths import best_of, reckon


def led(net, drawn, sides):
    """The boxes that a play gives the hand that draws first and the other one, and whose turn it is then."""
    check_state(net, drawn)
    if not is_play(sides, drawn, len(net[1])):
        raise BadPlay("no play from the state on")
    rims = rims_of(net)
    bits = bits_of(drawn)
    got = [0, 0]
    turn = 0
    for side in sides:
        gained = gain(rims, bits, side)
        bits = bits | 1 << side
        got[turn] += gained
        if gained == 0:
            turn = 1 - turn
    return (got[0], got[1], turn)


def is_play(thing, drawn, many):
    """Whether it is a list of free sides, each once."""
    if not isinstance(thing, list) or not all([is_count(side, many) for side in thing]):
        return False
    return len(set(drawn + thing)) == len(drawn) + len(thing)


def best_plays(net, drawn):
    """How many best plays there are from the state on."""
    check_state(net, drawn)
    start = bits_of(drawn)
    return count_plays(best_by_state(net, start), start, len(net[1]))[start]


def play_by(net, drawn, number):
    """The best play of a number, in the order of lists."""
    check_state(net, drawn)
    start = bits_of(drawn)
    bests = best_by_state(net, start)
    counts = count_plays(bests, start, len(net[1]))
    if not is_count(number, counts[start]):
        raise BadNumber("no number of a best play")
    return walk(bests, counts, start, number)


def best_by_state(net, start):
    """The best sides of each state that comes from start and has a free side, by its bits."""
    rims = rims_of(net)
    worths = reckon(rims, start)
    return {bits: best_of(rims, worths, bits) for bits in states_back(start, len(rims))}


def count_plays(bests, start, many):
    """How many best plays there are from each state on that comes from start, by its bits."""
    # Where nothing is left to draw there is one best play, the empty one.
    counts = {full_bits(many): 1}
    for bits in states_back(start, many):
        counts[bits] = sum([counts[bits | 1 << side] for side in bests[bits]])
    return counts


def walk(bests, counts, start, number):
    """The best play of a number from start on, side by side."""
    play = []
    bits = start
    before = number
    while bits in bests:
        side, before = turn_off(bests[bits], counts, bits, before)
        play.append(side)
        bits = bits | 1 << side
    return play


def turn_off(sides, counts, bits, number):
    """The next side of the best play of a number, and that play's number behind this side."""
    left = number
    at = 0
    while left >= counts[bits | 1 << sides[at]]:
        left -= counts[bits | 1 << sides[at]]
        at += 1
    return (sides[at], left)
