import unittest
from itertools import permutations

from boxclose.endings import ending_net
from boxclose.errors import BadNet, BadOrder, TooMany
from boxclose.joining import beside, renamed
from boxclose.nets import floor_net, opened
from boxclose.worths import worth

from doors import DoorTest, is_plain
from samples import (ALIKE, CHAIN, HUGE, KINDRED, NETS, NINE, NINE_FULL, NO_NETS, ONE, PAIR, RING, SQUARE, STRAYS,
                     TWIN, WIDEST, fresh, knotted, small_nets)

LEAST = (1, [(-1, 0)])


def back(order):
    """The order that takes a renaming back."""
    return [order.index(box) for box in range(len(order))]


def no_orders(boxes):
    """What is no order of so many boxes, 2 at the least."""
    right = list(range(boxes))
    return STRAYS + [
        0, 1, HUGE, (), tuple(right), knotted(), [], right[:-1], right[1:], right + [boxes], right + [0], right * 2,
        [0] * boxes, [1] * boxes, right[:-1] + [boxes], right[:-1] + [-1], [-1] + right, right[:-1] + [HUGE],
        [-HUGE] + right[1:], [False, True] + right[2:], [0, True] + right[2:], [False] + right[1:],
        ["0"] + right[1:], [None] + right[1:], [right], [[0]] + right[1:], [(0,)] + right[1:], [0] * 1000,
    ]


class Renamed(DoorTest, unittest.TestCase):
    """Point [10]: nets renamed."""

    def test_the_box_at_place_k_is_box_k_then(self):
        self.assertEqual(renamed(CHAIN, [1, 0, 2]), (3, [(-1, 1), (-1, 2), (0, 1), (0, 2)]))
        # Box 2 stands at place 0, box 0 at place 1, box 1 at place 2.
        net = (3, [(-1, 0), (-1, 0), (0, 1), (1, 2)])
        self.assertEqual(renamed(net, [2, 0, 1]), (3, [(-1, 1), (-1, 1), (0, 2), (1, 2)]))
        self.assertEqual(renamed(net, [1, 2, 0]), (3, [(-1, 2), (-1, 2), (0, 1), (0, 2)]))

    def test_by_the_order_of_counting(self):
        for net in NETS + WIDEST:
            self.assertEqual(renamed(net, list(range(net[0]))), net)

    def test_one_box(self):
        self.assertEqual(renamed(ONE, [0]), ONE)
        self.assertEqual(renamed(ALIKE, [0]), ALIKE)

    def test_by_each_order_and_back_again(self):
        for net in small_nets() + [PAIR, CHAIN, RING, SQUARE, KINDRED]:
            for some in permutations(range(net[0])):
                order = list(some)
                there = renamed(net, order)
                self.assertEqual(there[1], sorted(there[1]))
                self.assertEqual(opened(there, []), [opened(net, [])[box] for box in order])
                self.assertEqual(renamed(there, back(order)), net)

    def test_by_hand(self):
        for net in small_nets() + [PAIR, CHAIN, RING, SQUARE, KINDRED]:
            for some in permutations(range(net[0])):
                order = list(some)
                names = {-1: -1, **dict(zip(order, range(net[0])))}
                sides = sorted(tuple(sorted((names[low], names[high]))) for low, high in net[1])
                self.assertEqual(renamed(net, order), (net[0], sides))

    def test_the_worth_stays(self):
        for net in (CHAIN, RING, PAIR, KINDRED, SQUARE):
            for some in permutations(range(net[0])):
                self.assertEqual(worth(renamed(net, list(some)), []), worth(net, []))
        for net in (NINE, NINE_FULL):
            self.assertEqual(worth(renamed(net, [4, 8, 0, 3, 7, 1, 5, 2, 6]), []), worth(net, []))

    def test_two_behind_one_another(self):
        one, other = [2, 0, 3, 1], [3, 2, 0, 1]
        both = [one[place] for place in other]
        self.assertEqual(renamed(renamed(SQUARE, one), other), renamed(SQUARE, both))
        one, other = [1, 2, 0], [1, 0, 2]
        both = [one[place] for place in other]
        self.assertEqual(renamed(renamed(KINDRED, one), other), renamed(KINDRED, both))
        self.assertNotEqual(renamed(KINDRED, one), renamed(KINDRED, back(one)))

    def test_refusals(self):
        for wrong in NO_NETS:
            self.refuses(BadNet, renamed, wrong, [0])
            self.refuses(BadNet, renamed, wrong, None)
        for net in (TWIN, PAIR, CHAIN, SQUARE, NINE):
            for wrong in no_orders(net[0]):
                self.refuses(BadOrder, renamed, net, wrong)
        for wrong in ([], [1], [-1], [0, 0], [0, 1], [True], [False], [None], (0,), 0):
            self.refuses(BadOrder, renamed, ONE, wrong)

    def test_nothing_is_changed_or_kept(self):
        for net in NETS + WIDEST:
            self.leaves_all_as_it_is(renamed, fresh(net), list(range(net[0])))
            self.leaves_all_as_it_is(renamed, fresh(net), list(range(net[0]))[::-1])

    def test_changed_in_place_between_two_calls(self):
        net, order = fresh(CHAIN), [1, 0, 2]
        first = renamed(net, order)
        order.reverse()
        self.assertEqual(renamed(net, order), (3, [(-1, 0), (-1, 1), (0, 2), (1, 2)]))
        net[1].pop(0)
        self.assertEqual(renamed(net, order), (3, [(-1, 0), (0, 2), (1, 2)]))
        self.assertEqual(first, (3, [(-1, 1), (-1, 2), (0, 1), (0, 2)]))

    def test_a_net_is_told(self):
        told = renamed(PAIR, [1, 0])
        self.assertEqual([type(told), type(told[0]), type(told[1])], [tuple, int, list])
        self.assertEqual({type(side) for side in told[1]}, {tuple})
        self.assertTrue(is_plain(told))


class Beside(DoorTest, unittest.TestCase):
    """Point [10]: two nets beside one another."""

    def test_the_second_ones_boxes_behind_the_first_ones(self):
        self.assertEqual(beside(LEAST, LEAST), (2, [(-1, 0), (-1, 1)]))
        self.assertEqual(beside(TWIN, LEAST), (3, [(-1, 2), (0, 1)]))
        self.assertEqual(beside(LEAST, TWIN), (3, [(-1, 0), (1, 2)]))
        self.assertEqual(beside(ONE, TWIN), (3, [(-1, 0)] * 4 + [(1, 2)]))
        sides = [(-1, 0), (-1, 2), (0, 1), (1, 2), (3, 4), (3, 6), (4, 5), (5, 6)]
        self.assertEqual(beside(CHAIN, RING), (7, sides))

    def test_a_net_beside_itself(self):
        net = fresh(TWIN)
        self.assertEqual(beside(net, net), (4, [(0, 1), (2, 3)]))
        self.assertEqual(net, TWIN)

    def test_endings_are_their_parts_beside_one_another(self):
        for chains, rings in (([3, 4], []), ([3], [4]), ([], [4, 5]), ([4], [5]), ([3, 6], [])):
            parts = [ending_net([length], []) for length in chains] + [ending_net([], [length]) for length in rings]
            self.assertEqual(beside(parts[0], parts[1]), ending_net(chains, rings))

    def test_all_small_ones(self):
        nets = small_nets()[::7] + [CHAIN, RING]
        for net in nets:
            for other in nets:
                told = beside(net, other)
                self.assertEqual(told[1], sorted(told[1]))
                self.assertEqual(len(told[1]), len(net[1]) + len(other[1]))
                self.assertEqual(opened(told, []), opened(net, []) + opened(other, []))
                turned = list(range(net[0], told[0])) + list(range(net[0]))
                self.assertEqual(renamed(told, turned), beside(other, net))

    def test_to_the_bounds(self):
        wide = (8, [(-1, box) for box in range(8)])
        self.assertEqual(beside(wide, LEAST), NINE)
        self.assertEqual(beside(LEAST, wide), NINE)
        self.refuses(TooMany, beside, wide, TWIN)
        self.refuses(TooMany, beside, TWIN, wide)
        self.refuses(TooMany, beside, NINE, LEAST)
        self.refuses(TooMany, beside, NINE, NINE)
        many = (1, [(-1, 0)] * 11)
        self.assertEqual(beside(many, LEAST), (2, [(-1, 0)] * 11 + [(-1, 1)]))
        self.assertEqual(beside(LEAST, many), (2, [(-1, 0)] + [(-1, 1)] * 11))
        self.refuses(TooMany, beside, many, (1, [(-1, 0)] * 2))
        self.refuses(TooMany, beside, (1, [(-1, 0)] * 2), many)
        self.refuses(TooMany, beside, ALIKE, LEAST)
        self.refuses(TooMany, beside, LEAST, SQUARE)
        self.refuses(TooMany, beside, NINE_FULL, NINE_FULL)
        full = beside(ending_net([3, 3], []), CHAIN)
        self.assertEqual((full[0], len(full[1])), (9, 12))

    def test_a_closed_net_beside_another_adds_nothing(self):
        for net in (LEAST, TWIN, CHAIN, RING, KINDRED, floor_net(1, 2)):
            for other in (LEAST, TWIN, ONE, CHAIN, RING):
                whole = beside(net, other)
                first_closed = [at for at, side in enumerate(whole[1]) if side[1] < net[0]]
                second_closed = [at for at, side in enumerate(whole[1]) if side[1] >= net[0]]
                self.assertEqual(worth(whole, first_closed), worth(other, []))
                self.assertEqual(worth(whole, second_closed), worth(net, []))

    def test_refusals(self):
        for wrong in NO_NETS:
            self.refuses(BadNet, beside, wrong, ONE)
            self.refuses(BadNet, beside, ONE, wrong)
            self.refuses(BadNet, beside, wrong, wrong)
            # What is no net goes before what is too many.
            self.refuses(BadNet, beside, NINE_FULL, wrong)
            self.refuses(BadNet, beside, wrong, NINE_FULL)

    def test_nothing_is_changed_or_kept(self):
        for net in (LEAST, TWIN, ONE, CHAIN):
            for other in (LEAST, TWIN, ONE, RING):
                self.leaves_all_as_it_is(beside, fresh(net), fresh(other))

    def test_changed_in_place_between_two_calls(self):
        net, other = fresh(LEAST), fresh(TWIN)
        first = beside(net, other)
        net[1].append((-1, 0))
        other[1].insert(0, (-1, 1))
        self.assertEqual(beside(net, other), (3, [(-1, 0), (-1, 0), (-1, 2), (1, 2)]))
        self.assertEqual(first, (3, [(-1, 0), (1, 2)]))

    def test_a_net_is_told(self):
        told = beside(PAIR, CHAIN)
        self.assertEqual([type(told), type(told[0]), type(told[1])], [tuple, int, list])
        self.assertEqual({type(side) for side in told[1]}, {tuple})
        self.assertTrue(is_plain(told))


if __name__ == "__main__":
    unittest.main()
