import unittest

from boxclose.errors import BadDrawn, BadFloor, BadNet, BadSide
from boxclose.nets import closed, draw, floor_net, free, opened

import reference
from doors import DoorTest, is_plain
from samples import (ALIKE, CHAIN, HUGE, KINDRED, NETS, NINE, NINE_FULL, NO_NETS, NO_NUMBERS, ONE, PAIR, RING,
                     SQUARE, TWIN, WIDEST, all_drawn, no_drawn, small_nets)


class States(DoorTest, unittest.TestCase):
    """Point [2]: what is told of a state."""

    def test_one_box(self):
        self.assertEqual(opened(ONE, []), [4])
        self.assertEqual(opened(ONE, [1, 2]), [2])
        self.assertEqual(opened(ONE, [0, 1, 2, 3]), [0])
        self.assertEqual(closed(ONE, [0, 1, 2]), [])
        self.assertEqual(closed(ONE, [0, 1, 2, 3]), [0])
        self.assertEqual(free(ONE, []), [0, 1, 2, 3])
        self.assertEqual(free(ONE, [0, 2]), [1, 3])
        self.assertEqual(free(ONE, [0, 1, 2, 3]), [])

    def test_the_least_net(self):
        least = (1, [(-1, 0)])
        self.assertEqual((opened(least, []), closed(least, []), free(least, [])), ([1], [], [0]))
        self.assertEqual((opened(least, [0]), closed(least, [0]), free(least, [0])), ([0], [0], []))
        self.assertEqual(draw(least, [], 0), ([0], 1))

    def test_a_side_counts_for_both_its_boxes(self):
        self.assertEqual(opened(PAIR, []), [4, 4])
        self.assertEqual(opened(PAIR, [6]), [3, 3])
        self.assertEqual(opened(PAIR, [0, 1, 6]), [1, 3])
        self.assertEqual(opened(TWIN, []), [1, 1])

    def test_closed_boxes_are_told_rising(self):
        self.assertEqual(closed(PAIR, [3, 4, 5, 6]), [1])
        self.assertEqual(closed(PAIR, [0, 1, 2, 3, 4, 5]), [])
        self.assertEqual(closed(PAIR, list(range(7))), [0, 1])
        self.assertEqual(closed(CHAIN, [1, 2, 3]), [1, 2])
        self.assertEqual(closed(NINE, [2, 5, 7]), [2, 5, 7])

    def test_nine_boxes(self):
        self.assertEqual(opened(NINE, [0, 8]), [0] + [1] * 7 + [0])
        self.assertEqual(opened(NINE_FULL, []), [2, 3, 3, 3, 2, 2, 2, 2, 1])
        self.assertEqual(closed(NINE_FULL, list(range(12))), list(range(9)))

    def test_alike_sides_are_sides_of_their_own(self):
        self.assertEqual(opened(ALIKE, [3, 7]), [10])
        self.assertEqual(free(ALIKE, [3, 7]), [0, 1, 2, 4, 5, 6, 8, 9, 10, 11])
        self.assertEqual(opened(KINDRED, [2]), [4, 3, 2])

    def test_drawing(self):
        self.assertEqual(draw(ONE, [], 2), ([2], 0))
        self.assertEqual(draw(ONE, [0, 3], 2), ([0, 2, 3], 0))
        self.assertEqual(draw(ONE, [0, 1, 3], 2), ([0, 1, 2, 3], 1))
        self.assertEqual(draw(CHAIN, [0], 2), ([0, 2], 1))
        self.assertEqual(draw(ALIKE, list(range(11)), 11), (list(range(12)), 1))

    def test_a_side_may_close_two_at_once(self):
        self.assertEqual(draw(TWIN, [], 0), ([0], 2))
        self.assertEqual(draw(PAIR, [0, 1, 2, 3, 4, 5], 6), (list(range(7)), 2))
        self.assertEqual(draw(PAIR, [0, 1, 2, 3, 4], 6), ([0, 1, 2, 3, 4, 6], 1))
        self.assertEqual(draw(RING, [0, 3], 1), ([0, 1, 3], 2))
        self.assertEqual(draw(RING, [0, 1], 2), ([0, 1, 2], 1))

    def test_a_closed_box_is_not_closed_again(self):
        self.assertEqual(draw(PAIR, [0, 1, 2, 6], 3), ([0, 1, 2, 3, 6], 0))

    def test_all_small_states(self):
        for net in small_nets():
            for drawn in all_drawn(net):
                boxes = range(net[0])
                self.assertEqual(opened(net, drawn), [len(reference.open_sides(net, drawn, box)) for box in boxes])
                self.assertEqual(closed(net, drawn), reference.shut_boxes(net, drawn))
                self.assertEqual(free(net, drawn), reference.free_sides(net, drawn))
                for side in free(net, drawn):
                    self.assertEqual(draw(net, drawn, side), reference.behind(net, drawn, side))

    def test_all_states_of_the_square(self):
        for drawn in all_drawn(SQUARE):
            self.assertEqual(closed(SQUARE, drawn), reference.shut_boxes(SQUARE, drawn))
            self.assertEqual(free(SQUARE, drawn), reference.free_sides(SQUARE, drawn))

    def test_what_is_told_are_lists_and_a_pair(self):
        for door in (opened, closed, free):
            self.assertIs(type(door(PAIR, [0, 1, 2, 6])), list)
        told = draw(PAIR, [], 0)
        self.assertIs(type(told), tuple)
        self.assertEqual([type(part) for part in told], [list, int])

    def test_nothing_is_changed_or_kept(self):
        for net in NETS + WIDEST:
            for drawn in ([], [0], list(range(len(net[1])))):
                for door in (opened, closed, free):
                    boxes, sides = net
                    self.leaves_all_as_it_is(door, (boxes, list(sides)), list(drawn))
                if len(drawn) < len(net[1]):
                    self.leaves_all_as_it_is(draw, (net[0], list(net[1])), list(drawn), len(net[1]) - 1)


class Refusals(DoorTest, unittest.TestCase):
    """Point [2]: what is no net, no drawn sides, no free side."""

    def test_states(self):
        for door in (opened, closed, free):
            self.refuses_no_states(door)

    def test_drawing_refuses_the_net_first_then_the_drawn_sides(self):
        self.refuses_no_states(draw, 0)
        self.refuses_no_states(draw, None)

    def test_no_free_side(self):
        for drawn in ([], [0], [1, 3], [0, 1, 2, 3]):
            for side in NO_NUMBERS + [-1, 4, 5, HUGE, -HUGE] + drawn:
                self.refuses(BadSide, draw, ONE, drawn, side)
        self.refuses(BadSide, draw, ALIKE, [], 12)
        self.refuses(BadSide, draw, TWIN, [], True)
        self.refuses(BadSide, draw, TWIN, [], False)

    def test_the_refusal_that_is_told_first(self):
        self.refuses(BadNet, draw, (1, []), [0], 0)
        self.refuses(BadNet, draw, None, None, None)
        self.refuses(BadDrawn, draw, ONE, [4], 9)
        self.refuses(BadDrawn, draw, ONE, (), "0")

    def test_what_is_just_allowed(self):
        self.assertEqual(free((9, [(-1, box) for box in range(9)] + [(0, 1), (1, 2), (2, 3)]), []), list(range(12)))
        self.assertEqual(free((2, [(-1, 0), (-1, 0), (0, 1), (0, 1)]), [3]), [0, 1, 2])

    def test_wrong_inputs_are_left_as_they_are(self):
        net = (2, [(0, 1), (-1, 0)])
        self.refuses(BadNet, free, net, [])
        self.assertEqual(net, (2, [(0, 1), (-1, 0)]))
        drawn = [2, 1]
        self.refuses(BadDrawn, free, ONE, drawn)
        self.assertEqual(drawn, [2, 1])

    def test_the_samples_cover_each_door(self):
        self.assertGreater(len(NO_NETS), 60)
        self.assertGreater(len(no_drawn(4)), 40)


class Floors(DoorTest, unittest.TestCase):
    """Point [3]."""

    def test_one_box(self):
        self.assertEqual(floor_net(1, 1), (1, [(-1, 0)] * 4))

    def test_two_boxes(self):
        sides = [(-1, 0), (-1, 0), (-1, 0), (-1, 1), (-1, 1), (-1, 1), (0, 1)]
        self.assertEqual(floor_net(1, 2), (2, sides))
        self.assertEqual(floor_net(2, 1), (2, sides))

    def test_three_boxes(self):
        ground = [(-1, 0)] * 3 + [(-1, 1)] * 2 + [(-1, 2)] * 3
        self.assertEqual(floor_net(1, 3), (3, ground + [(0, 1), (1, 2)]))
        self.assertEqual(floor_net(3, 1), (3, ground + [(0, 1), (1, 2)]))

    def test_four_boxes_in_a_square_have_as_many_sides_as_may_be(self):
        ground = [(-1, 0)] * 2 + [(-1, 1)] * 2 + [(-1, 2)] * 2 + [(-1, 3)] * 2
        self.assertEqual(floor_net(2, 2), (4, ground + [(0, 1), (0, 2), (1, 3), (2, 3)]))
        self.assertEqual(len(floor_net(2, 2)[1]), 12)

    def test_four_boxes_in_a_row_have_a_side_too_many(self):
        self.refuses(BadFloor, floor_net, 1, 4)
        self.refuses(BadFloor, floor_net, 4, 1)

    def test_each_box_has_four_sides_and_each_floor_is_a_net(self):
        for rows, columns in ((1, 1), (1, 2), (2, 1), (1, 3), (3, 1), (2, 2)):
            net = floor_net(rows, columns)
            self.assertEqual(opened(net, []), [4] * (rows * columns))

    def test_no_floor(self):
        for wrong in NO_NUMBERS + [0, -1, 4, 5, 12, HUGE, -HUGE]:
            for right in (1, 2, 3):
                self.refuses(BadFloor, floor_net, wrong, right)
                self.refuses(BadFloor, floor_net, right, wrong)
            self.refuses(BadFloor, floor_net, wrong, wrong)
        for rows, columns in ((2, 3), (3, 2), (3, 3), (-1, -1), (-2, -2), (-1, -4)):
            self.refuses(BadFloor, floor_net, rows, columns)

    def test_each_net_is_new(self):
        first = floor_net(1, 2)
        self.assertIs(type(first), tuple)
        self.assertIs(type(first[1]), list)
        self.assertEqual({type(side) for side in first[1]}, {tuple})
        self.assertTrue(is_plain(first))
        first[1].clear()
        self.assertEqual(floor_net(1, 2), PAIR)
        for rows, columns in ((1, 1), (1, 3), (2, 2)):
            self.leaves_all_as_it_is(floor_net, rows, columns)


if __name__ == "__main__":
    unittest.main()
