import unittest
from itertools import islice, permutations
from math import factorial

from boxclose.errors import BadDrawn, BadNet, BadNumber, BadPlay
from boxclose.lines import best_plays, led, play_by
from boxclose.nets import floor_net
from boxclose.worths import worth

import reference
from doors import DoorTest
from samples import (ALIKE, CHAIN, HUGE, KINDRED, NETS, NINE, NO_NUMBERS, ONE, PAIR, RING, SQUARE, STRAYS, TWIN,
                     WIDEST, all_drawn, knotted, small_nets)


def no_plays(many):
    """What is no play where none of so many sides, 2 at the least, is drawn."""
    return STRAYS + [
        0, 1, HUGE, (), (0,), (0, 1), knotted(), [None], [True], [False], [0, True], ["0"], [[]], [[0]], [(0,)],
        [-1], [0, -1], [many], [0, many], [HUGE], [-HUGE], [0, 0], [0, 1, 0], [1, 0, 1],
        list(range(many)) + [0], list(range(many + 1)), [0] * 1000,
    ]


class Plays(DoorTest, unittest.TestCase):
    """Point [5]."""

    def test_an_empty_play(self):
        for net in NETS + WIDEST:
            self.assertEqual(led(net, [], []), (0, 0, 0))
            self.assertEqual(led(net, list(range(len(net[1]))), []), (0, 0, 0))

    def test_hands_draw_in_turn(self):
        self.assertEqual(led(ONE, [], [2]), (0, 0, 1))
        self.assertEqual(led(ONE, [], [2, 0]), (0, 0, 0))
        self.assertEqual(led(ONE, [], [2, 0, 3]), (0, 0, 1))
        self.assertEqual(led(ONE, [], [2, 0, 3, 1]), (0, 1, 1))
        self.assertEqual(led(ONE, [1], [2, 0, 3]), (1, 0, 0))

    def test_who_closes_a_box_draws_again(self):
        self.assertEqual(led(CHAIN, [], [0, 2, 3, 1]), (0, 3, 1))
        self.assertEqual(led(CHAIN, [0], [2, 1]), (1, 0, 1))
        self.assertEqual(led(CHAIN, [0], [2, 1, 3]), (1, 2, 1))
        self.assertEqual(led(NINE, [], [8, 0, 3]), (3, 0, 0))

    def test_two_boxes_at_once(self):
        self.assertEqual(led(TWIN, [], [0]), (2, 0, 0))
        self.assertEqual(led(PAIR, [], [0, 1, 2, 3, 4, 5, 6]), (2, 0, 0))
        self.assertEqual(led(PAIR, [0], [1, 2, 3, 4, 5, 6]), (0, 2, 1))
        self.assertEqual(led(RING, [], [0, 3, 1, 2]), (4, 0, 0))

    def test_all_plays_of_small_states(self):
        for net in small_nets():
            for drawn in all_drawn(net):
                sides = reference.free_sides(net, drawn)
                for size in range(len(sides) + 1):
                    for order in permutations(sides, size):
                        play = list(order)
                        self.assertEqual(led(net, drawn, play), reference.score(net, drawn, play))

    def test_a_triple_is_told(self):
        told = led(PAIR, [], [0, 6])
        self.assertIs(type(told), tuple)
        self.assertEqual([type(part) for part in told], [int, int, int])

    def test_refusals_of_states(self):
        self.refuses_no_states(led, [])
        self.refuses_no_states(led, None)

    def test_no_plays(self):
        for net in (ONE, PAIR, ALIKE):
            for play in no_plays(len(net[1])):
                self.refuses(BadPlay, led, net, [], play)
        self.refuses(BadPlay, led, ONE, [1], [1])
        self.refuses(BadPlay, led, ONE, [1], [0, 1])
        self.refuses(BadPlay, led, ONE, [0, 1, 2, 3], [0])

    def test_the_refusal_that_is_told_first(self):
        self.refuses(BadNet, led, (0, []), [9], [9])
        self.refuses(BadDrawn, led, ONE, [9], [9])
        self.refuses(BadDrawn, led, ONE, [0, 0], [0, 0])

    def test_nothing_is_changed_or_kept(self):
        for net in NETS + WIDEST:
            sides = list(range(len(net[1])))
            self.leaves_all_as_it_is(led, (net[0], list(net[1])), [], sides[::-1])
            self.leaves_all_as_it_is(led, (net[0], list(net[1])), sides[:1], sides[1:])


class BestPlays(DoorTest, unittest.TestCase):
    """Point [6]."""

    def plays(self, net, drawn):
        """All best plays, by their numbers."""
        return [play_by(net, drawn, number) for number in range(best_plays(net, drawn))]

    def test_where_no_side_is_free_there_is_the_empty_one(self):
        for net in NETS + WIDEST:
            drawn = list(range(len(net[1])))
            self.assertEqual(best_plays(net, drawn), 1)
            self.assertEqual(play_by(net, drawn, 0), [])
            self.refuses(BadNumber, play_by, net, drawn, 1)

    def test_one_side_left(self):
        self.assertEqual(best_plays(TWIN, []), 1)
        self.assertEqual(play_by(TWIN, [], 0), [0])

    def test_each_order_of_alike_sides(self):
        self.assertEqual(best_plays(ONE, []), 24)
        self.assertEqual(self.plays(ONE, []), [list(order) for order in permutations(range(4))])
        self.assertEqual(self.plays(ONE, [1]), [list(order) for order in permutations([0, 2, 3])])

    def test_two_boxes(self):
        self.assertEqual(best_plays(PAIR, []), 144)
        self.assertEqual(play_by(PAIR, [], 0), [6, 0, 3, 1, 2, 4, 5])
        self.assertEqual(play_by(PAIR, [], 143), [6, 5, 2, 4, 3, 1, 0])
        self.assertEqual({play[0] for play in self.plays(PAIR, [])}, {6})

    def test_only_best_sides_are_drawn(self):
        # Box 0 lacks side 0 alone: who draws another side first gives both boxes away.
        net = (2, [(-1, 0), (-1, 1), (-1, 1)])
        self.assertEqual(worth(net, []), 0)
        self.assertEqual(self.plays(net, []), [[0, 1, 2], [0, 2, 1]])

    def test_all_small_states(self):
        for net in small_nets():
            for drawn in all_drawn(net):
                plays = reference.all_best_plays(net, drawn)
                self.assertEqual(best_plays(net, drawn), len(plays))
                self.assertEqual(self.plays(net, drawn), plays)

    def test_larger_nets(self):
        for net in (PAIR, RING, KINDRED):
            for drawn in ([], [0], [1, 3]):
                plays = reference.all_best_plays(net, drawn)
                self.assertEqual(best_plays(net, drawn), len(plays))
                self.assertEqual(self.plays(net, drawn), plays)

    def test_each_best_play_comes_to_the_worth(self):
        for net in WIDEST:
            many = best_plays(net, [])
            for number in (0, 1, many // 3, many // 2, many - 2, many - 1):
                first, other, _ = led(net, [], play_by(net, [], number))
                self.assertEqual(first - other, worth(net, []))

    def test_the_widest_net_by_its_numbers(self):
        many = factorial(12)
        self.assertEqual(best_plays(ALIKE, []), many)
        self.assertEqual(play_by(ALIKE, [], many - 1), list(range(11, -1, -1)))
        self.assertEqual(play_by(ALIKE, [], many // 2), [6] + [side for side in range(12) if side != 6])
        for number, order in enumerate(islice(permutations(range(12)), 30)):
            self.assertEqual(play_by(ALIKE, [], number), list(order))
        for wrong in (many, many + 1, -1, HUGE, -HUGE):
            self.refuses(BadNumber, play_by, ALIKE, [], wrong)

    def test_the_square(self):
        many = best_plays(SQUARE, [])
        self.assertEqual(many, 327168)
        picked = [play_by(SQUARE, [], number) for number in range(0, many, many // 40)]
        self.assertEqual(picked, sorted(picked))
        self.assertEqual(play_by(SQUARE, [], 0), [0, 1, 2, 3, 11, 8, 9, 10, 4, 5, 6, 7])
        self.refuses(BadNumber, play_by, SQUARE, [], many)

    def test_refusals_of_states(self):
        self.refuses_no_states(best_plays)
        self.refuses_no_states(play_by, 0)
        self.refuses_no_states(play_by, None)

    def test_no_number_of_a_best_play(self):
        for wrong in NO_NUMBERS + [-1, -24, 24, 25, HUGE, -HUGE]:
            self.refuses(BadNumber, play_by, ONE, [], wrong)
        for wrong in (True, False, 1, -1):
            self.refuses(BadNumber, play_by, TWIN, [], wrong)

    def test_the_refusal_that_is_told_first(self):
        self.refuses(BadNet, play_by, (1, []), [0], -1)
        self.refuses(BadDrawn, play_by, ONE, [4], -1)

    def test_nothing_is_changed_or_kept(self):
        for net in NETS:
            for drawn in ([], [0], list(range(len(net[1])))):
                last = best_plays(net, drawn) - 1
                self.leaves_all_as_it_is(best_plays, (net[0], list(net[1])), list(drawn))
                for number in (0, last):
                    self.leaves_all_as_it_is(play_by, (net[0], list(net[1])), list(drawn), number)
        self.leaves_all_as_it_is(play_by, floor_net(2, 2), [], 5)
        self.leaves_all_as_it_is(best_plays, floor_net(2, 2), [])


if __name__ == "__main__":
    unittest.main()
