import unittest
from itertools import combinations_with_replacement

from boxclose.endings import ending, ending_net, openings, reply
from boxclose.errors import BadEnding
from boxclose.nets import opened
from boxclose.worths import best, worth

import reference
from doors import DoorTest, is_plain
from samples import HUGE, NO_NUMBERS, STRAYS, no_lengths, small_endings

# Endings too wide for a net, alike ones and the longest ones too.
WIDE = [([3, 3, 3], [4]), ([3, 4, 5], [4, 6]), ([10], [10]), ([1000], []), ([], [1000]), ([3] * 4, []),
        ([], [4] * 5), ([3, 3, 4], [4, 4]), ([3, 1000], [4, 1000]), ([5, 5, 6, 6], []), ([], [8, 8, 9]),
        ([3, 3, 4, 4], [4]), ([3, 5, 7], [6, 8])]


def door_of_all(kind, length):
    """Reply, as a door of the others alone."""
    return lambda chains, rings: reply(kind, length, chains, rings)


class Worths(DoorTest, unittest.TestCase):
    """Point [8]: the worth."""

    def test_none_at_all(self):
        self.assertEqual(ending([], []), 0)
        self.assertEqual(openings([], []), [])

    def test_one_alone_is_lost_whole(self):
        for length in (3, 4, 5, 9, 10, 999, 1000):
            self.assertEqual(ending([length], []), -length)
        for length in (4, 5, 6, 9, 10, 999, 1000):
            self.assertEqual(ending([], [length]), -length)

    def test_two(self):
        # The taker of the first leaves two boxes: 3 less 4 and the other chain's 3.
        self.assertEqual(ending([3, 3], []), -2)
        self.assertEqual(ending([4, 4], []), -4)
        self.assertEqual(ending([3, 10], []), -9)
        # Of rings of four, none is taken or all: 4 less 8 and the other ring's 4.
        self.assertEqual(ending([], [4, 4]), 0)
        self.assertEqual(ending([3], [4]), -1)
        self.assertEqual(ending([1000], [1000]), -1992)

    def test_three_and_four(self):
        # 3 less 2 and 3 less 4 and 2 are alike: 1. Behind that, 3 less 1 is 2 and the other no more than 0.
        self.assertEqual(ending([3, 3, 3], []), -1)
        self.assertEqual(ending([3, 3, 3, 3], []), -2)
        self.assertEqual(ending([], [4, 4, 4]), -4)

    def test_by_the_rule(self):
        for chains, rings in small_endings() + WIDE:
            self.assertEqual(ending(chains, rings), reference.ending_value(chains, rings))

    def test_many_alike_by_the_rule(self):
        lengths = [3, 4, 6]
        for many in range(5):
            for chains in combinations_with_replacement(lengths, many):
                for rings in combinations_with_replacement([4, 5, 8], 4 - many):
                    args = (list(chains), list(rings))
                    self.assertEqual(ending(*args), reference.ending_value(*args))

    def test_held_against_the_worth_of_the_net(self):
        nets = 0
        for chains, rings in small_endings():
            net = ending_net(chains, rings)
            if net is not None:
                nets += 1
                self.assertEqual(worth(net, []), ending(chains, rings))
        self.assertEqual(nets, 28)

    def test_eight_together(self):
        self.assertEqual(ending([1000] * 8, []), -7972)
        self.assertEqual(ending([], [1000] * 8), -7944)
        self.assertEqual(ending([3] * 8, []), eight_alike(3, 4))
        self.assertEqual(ending([], [4] * 8), eight_alike(4, 8))
        self.assertEqual(ending([3] * 4, [4] * 4), reference_of_alike([3] * 4, [4] * 4))

    def test_eight_of_different_lengths(self):
        chains, rings = [3, 4, 5, 6], [4, 5, 6, 1000]
        self.assertEqual(ending(chains, rings), reference_of_alike(chains, rings))
        self.assertEqual(ending(list(range(993, 1001)), []), reference_of_alike(list(range(993, 1001)), []))
        self.assertEqual(ending([], list(range(4, 12))), reference_of_alike([], list(range(4, 12))))

    def test_a_number_is_told(self):
        for chains, rings in small_endings() + WIDE:
            self.assertIs(type(ending(chains, rings)), int)
            self.leaves_all_as_it_is(ending, list(chains), list(rings))

    def test_changed_in_place_between_two_calls(self):
        chains, rings = [3], [4]
        self.assertEqual(ending(chains, rings), -1)
        chains.append(5)
        rings.clear()
        self.assertEqual(ending(chains, rings), -4)
        chains.pop()
        self.assertEqual(ending(chains, rings), -3)


def eight_alike(length, less):
    """The worth of eight alike parts, one behind the other."""
    here = 0
    for _ in range(8):
        here = -max(length + here, length - less - here)
    return here


def reference_of_alike(chains, rings):
    """As the reference, each ending once: so many parts have too many orders."""
    known = {}

    def value(some, others):
        if (some, others) not in known:
            costs = []
            for at, length in enumerate(some):
                rest = value(some[:at] + some[at + 1:], others)
                costs.append(max(length + rest, length - 4 - rest))
            for at, length in enumerate(others):
                rest = value(some, others[:at] + others[at + 1:])
                costs.append(max(length + rest, length - 8 - rest))
            known[some, others] = -min(costs, default=0)
        return known[some, others]

    return value(tuple(chains), tuple(rings))


class Nets(DoorTest, unittest.TestCase):
    """Point [8]: the net."""

    def test_a_chain(self):
        self.assertEqual(ending_net([3], []), (3, [(-1, 0), (-1, 2), (0, 1), (1, 2)]))
        self.assertEqual(ending_net([4], []), (4, [(-1, 0), (-1, 3), (0, 1), (1, 2), (2, 3)]))

    def test_a_ring(self):
        self.assertEqual(ending_net([], [4]), (4, [(0, 1), (0, 3), (1, 2), (2, 3)]))
        self.assertEqual(ending_net([], [5]), (5, [(0, 1), (0, 4), (1, 2), (2, 3), (3, 4)]))

    def test_chains_first_box_by_box(self):
        sides = [(-1, 0), (-1, 2), (0, 1), (1, 2), (3, 4), (3, 6), (4, 5), (5, 6)]
        self.assertEqual(ending_net([3], [4]), (7, sides))
        sides = [(-1, 0), (-1, 2), (-1, 3), (-1, 6), (0, 1), (1, 2), (3, 4), (4, 5), (5, 6)]
        self.assertEqual(ending_net([3, 4], []), (7, sides))
        sides = [(0, 1), (0, 3), (1, 2), (2, 3), (4, 5), (4, 8), (5, 6), (6, 7), (7, 8)]
        self.assertEqual(ending_net([], [4, 5]), (9, sides))

    def test_as_many_boxes_and_sides_as_may_be(self):
        ground = [(-1, box) for box in (0, 2, 3, 5, 6, 8)]
        between = [(0, 1), (1, 2), (3, 4), (4, 5), (6, 7), (7, 8)]
        self.assertEqual(ending_net([3, 3, 3], []), (9, ground + between))
        self.assertEqual(ending_net([9], []), (9, [(-1, 0), (-1, 8)] + [(box, box + 1) for box in range(8)]))
        self.assertEqual(ending_net([], [9]), (9, [(0, 1), (0, 8)] + [(box, box + 1) for box in range(1, 8)]))

    def test_none(self):
        for chains, rings in [([], []), ([10], []), ([], [10]), ([3, 7], []), ([3, 3, 4], []), ([6], [4]),
                              ([], [5, 5]), ([3] * 4, []), ([1000] * 8, []), ([], [1000] * 8)] + WIDE:
            self.assertIsNone(ending_net(chains, rings))

    def test_just_where_it_is_a_net(self):
        for chains, rings in small_endings() + WIDE:
            boxes = sum(chains) + sum(rings)
            net = ending_net(chains, rings)
            self.assertEqual(net is None, boxes == 0 or boxes > 9)
            if net is not None:
                self.assertEqual(opened(net, []), [2] * boxes)
                self.assertEqual(len(net[1]), boxes + len(chains))

    def test_each_net_is_new(self):
        for chains, rings in small_endings():
            if chains or rings:
                self.leaves_all_as_it_is(ending_net, list(chains), list(rings))
        told = ending_net([3], [])
        self.assertEqual([type(told), type(told[1])], [tuple, list])
        self.assertEqual({type(side) for side in told[1]}, {tuple})
        self.assertTrue(is_plain(told))


class Openings(DoorTest, unittest.TestCase):
    """Point [9]: the best openings."""

    def test_one_alone(self):
        self.assertEqual(openings([3], []), [("chain", 3)])
        self.assertEqual(openings([], [1000]), [("ring", 1000)])

    def test_alike_ones_once(self):
        self.assertEqual(openings([3, 3], []), [("chain", 3)])
        self.assertEqual(openings([1000] * 8, []), [("chain", 1000)])
        self.assertEqual(openings([], [4] * 8), [("ring", 4)])

    def test_one_of_two(self):
        # The ring opened, the other hand takes it and opens the chain; the chain opened, it leaves two boxes.
        self.assertEqual(openings([3], [4]), [("ring", 4)])
        self.assertEqual(openings([10], [12]), [("ring", 12)])
        self.assertEqual(openings([3], [5, 5]), [("chain", 3)])
        self.assertEqual(openings([4], [4, 12]), [("ring", 4)])

    def test_several(self):
        self.assertEqual(openings([3, 10], []), [("chain", 3), ("chain", 10)])
        self.assertEqual(openings([3, 3, 4], [4]), [("chain", 3), ("chain", 4), ("ring", 4)])
        self.assertEqual(openings([3], [4, 5]), [("chain", 3), ("ring", 4)])
        # Chains first, also where a ring is the shorter one.
        found = [args for args in self.samples() if len(openings(*args)) > 1]
        self.assertTrue([args for args in found if len({kind for kind, _ in openings(*args)}) == 2])

    def samples(self):
        lengths = list(combinations_with_replacement([3, 4, 5, 6, 7], 2)) + [(), (3,), (5,), (3, 3, 4), (3, 4, 5)]
        others = list(combinations_with_replacement([4, 5, 6, 8], 2)) + [(), (4,), (6,), (4, 4, 6)]
        return [(list(chains), list(rings)) for chains in lengths for rings in others]

    def test_by_the_rule(self):
        for chains, rings in small_endings() + WIDE + self.samples():
            costs = reference.opening_costs(chains, rings)
            least = min(costs.values(), default=0)
            right = [("chain", length) for length in sorted(set(chains)) if costs["chain", length] == least]
            right += [("ring", length) for length in sorted(set(rings)) if costs["ring", length] == least]
            self.assertEqual(openings(chains, rings), right)

    def test_held_against_the_best_sides_of_the_net(self):
        for chains, rings in small_endings():
            net = ending_net(chains, rings)
            if net is None:
                continue
            sides = [net[1][at] for at in best(net, [])]
            opened_ones = []
            first = 0
            for kind, length in [("chain", one) for one in chains] + [("ring", one) for one in rings]:
                if any(first <= side[1] < first + length for side in sides) and (kind, length) not in opened_ones:
                    opened_ones.append((kind, length))
                first += length
            self.assertEqual(openings(chains, rings), opened_ones)

    def test_pairs_are_told(self):
        told = openings([3, 3, 4], [4])
        self.assertIs(type(told), list)
        self.assertEqual({(type(pair), type(pair[0]), type(pair[1])) for pair in told}, {(tuple, str, int)})
        for chains, rings in small_endings() + WIDE:
            self.leaves_all_as_it_is(openings, list(chains), list(rings))


class Replies(DoorTest, unittest.TestCase):
    """Point [9]: what is best behind an opening."""

    def test_all_where_there_are_no_others(self):
        for length in (3, 4, 5, 1000):
            self.assertEqual(reply("chain", length, [], []), "all")
        for length in (4, 5, 8, 1000):
            self.assertEqual(reply("ring", length, [], []), "all")

    def test_of_a_chain(self):
        # The others' worth is -3, -2 and -1: below -2 two boxes are left.
        self.assertEqual(reply("chain", 3, [3], []), "leave")
        self.assertEqual(reply("chain", 3, [3, 3], []), "either")
        self.assertEqual(reply("chain", 1000, [3, 3], []), "either")
        self.assertEqual(reply("chain", 3, [3], [4]), "all")

    def test_of_a_ring(self):
        # The others' worth is -3, -4 and -5: below -4 four boxes are left.
        self.assertEqual(reply("ring", 4, [3], []), "all")
        self.assertEqual(reply("ring", 4, [4], []), "either")
        self.assertEqual(reply("ring", 4, [5], []), "leave")
        self.assertEqual(reply("ring", 1000, [], [4]), "either")

    def test_by_the_rule(self):
        told = {}
        for chains, rings in small_endings() + WIDE:
            rest = reference.ending_value(chains, rings)
            for kind, less, lengths in (("chain", 4, (3, 4, 1000)), ("ring", 8, (4, 5, 1000))):
                for length in lengths:
                    takes, leaves = length + rest, length - less - rest
                    right = "either" if takes == leaves else "all" if takes > leaves else "leave"
                    self.assertEqual(reply(kind, length, chains, rings), right)
                    told[kind, right] = True
        self.assertEqual(len(told), 6)

    def test_eight_others_may_be(self):
        for kind in ("chain", "ring"):
            self.assertEqual(reply(kind, 1000, [1000] * 8, []), "leave")
            self.assertEqual(reply(kind, 4, [1000] * 4, [1000] * 4), "leave")
            self.refuses(BadEnding, reply, kind, 4, [1000] * 9, [])
            self.refuses(BadEnding, reply, kind, 4, [4] * 8, [4])

    def test_a_text_is_told(self):
        self.assertIs(type(reply("chain", 3, [3], [])), str)
        for chains, rings in small_endings():
            self.leaves_all_as_it_is(reply, "ring", 4, list(chains), list(rings))


class Refusals(DoorTest, unittest.TestCase):
    """The refusals of point [8] and point [9]."""

    DOORS = [ending, openings, ending_net, door_of_all("chain", 3), door_of_all("ring", 4)]

    def test_no_chains(self):
        for door in self.DOORS:
            for wrong in no_lengths(3):
                for rings in ([], [4], [4, 4], None, [3]):
                    self.refuses(BadEnding, door, wrong, rings)

    def test_no_rings(self):
        for door in self.DOORS:
            for wrong in no_lengths(4):
                for chains in ([], [3], [3, 5], None, [2]):
                    self.refuses(BadEnding, door, chains, wrong)

    def test_too_many_together(self):
        for door in self.DOORS:
            for many in range(10):
                self.refuses(BadEnding, door, [3] * many, [4] * (9 - many))
            self.refuses(BadEnding, door, [3] * 8, [4] * 8)

    def test_what_is_just_allowed(self):
        for many in range(9):
            self.assertIs(type(ending([3] * many, [4] * (8 - many))), int)
            self.assertIsNone(ending_net([1000] * many, [1000] * (8 - many)))
        self.assertEqual(ending([3], []), -3)
        self.refuses(BadEnding, ending, [], [3])
        self.assertEqual(ending([1000], [1000]), -1992)
        self.refuses(BadEnding, ending, [1001], [])
        self.refuses(BadEnding, ending, [], [1001])

    def test_neither_chain_nor_ring(self):
        words = ["Chain", "CHAIN", "chains", "chain ", " ring", "rings", "r", "all", "leave", "chainring", "\n"]
        for kind in STRAYS + NO_NUMBERS + words + [0, 1, 3, 4, HUGE, b"chain", b"ring", ("chain",), ["ring"]]:
            self.refuses(BadEnding, reply, kind, 4, [], [])
            self.refuses(BadEnding, reply, kind, None, None, None)

    def test_no_length(self):
        for wrong in NO_NUMBERS + [-1, 0, 1, 2, -3, -4, 1001, HUGE, -HUGE, "4", [4]]:
            for kind in ("chain", "ring"):
                self.refuses(BadEnding, reply, kind, wrong, [], [])
                self.refuses(BadEnding, reply, kind, wrong, [3], [4])
        self.refuses(BadEnding, reply, "ring", 3, [], [])
        self.assertEqual(reply("chain", 3, [], []), "all")

    def test_wrong_inputs_are_left_as_they_are(self):
        for door in self.DOORS:
            chains, rings = [4, 3], [5, 4]
            self.refuses(BadEnding, door, chains, rings)
            self.assertEqual((chains, rings), ([4, 3], [5, 4]))


if __name__ == "__main__":
    unittest.main()
