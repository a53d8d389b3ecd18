import unittest

from boxclose.nets import floor_net, free
from boxclose.worths import best, worth

import reference
from doors import DoorTest
from samples import ALIKE, CHAIN, NETS, NINE, ONE, PAIR, RING, TWIN, WIDEST, all_drawn, small_nets


class Worths(DoorTest, unittest.TestCase):
    """Point [4]."""

    def test_one_box_goes_to_who_draws_its_last_side(self):
        self.assertEqual([worth(ONE, list(range(many))) for many in range(5)], [-1, 1, -1, 1, 0])

    def test_where_no_side_is_free(self):
        for net in NETS + WIDEST:
            drawn = list(range(len(net[1])))
            self.assertEqual(worth(net, drawn), 0)
            self.assertEqual(best(net, drawn), [])

    def test_two_boxes_closed_at_once(self):
        self.assertEqual(worth(TWIN, []), 2)
        self.assertEqual(best(TWIN, []), [0])
        self.assertEqual(worth(PAIR, [0, 1, 2, 3, 4, 5]), 2)

    def test_who_closes_a_box_draws_again(self):
        # Nine boxes of one side each: the hand that draws takes all.
        self.assertEqual(worth(NINE, []), 9)
        self.assertEqual(worth(NINE, [4]), 8)
        # A chain that is opened at its end is taken whole.
        self.assertEqual(worth(CHAIN, [0]), 3)

    def test_who_opens_a_chain_or_a_ring_loses_it(self):
        self.assertEqual(worth(CHAIN, []), -3)
        self.assertEqual(worth(RING, []), -4)
        self.assertEqual(best(CHAIN, []), [0, 1, 2, 3])
        self.assertEqual(best(RING, []), [0, 1, 2, 3])

    def test_two_boxes_are_left_where_that_is_better(self):
        # Chains of three boxes and four, and the first one's side 0 drawn: the hand that draws takes
        # a box and leaves two, or else it would have to open the other chain.
        net = (7, [(-1, 0), (-1, 2), (-1, 3), (-1, 6), (0, 1), (1, 2), (3, 4), (4, 5), (5, 6)])
        self.assertEqual(worth(net, [2, 3, 6, 7, 8]), -3)
        self.assertEqual(worth(net, [0, 2, 3, 6, 7, 8]), 3)
        self.assertEqual(best(net, [0]), [4])
        self.assertEqual(worth(net, [0]), 3)
        # Behind a box taken, side 1 leaves two boxes to the other one, who then opens.
        self.assertEqual(best(net, [0, 4]), [1])
        self.assertEqual(worth(net, [0, 4]), 2)

    def test_below_none(self):
        self.assertEqual(worth(ONE, [0, 1]), -1)
        self.assertEqual(worth(PAIR, [0, 1, 3, 4]), -2)

    def test_floors(self):
        self.assertEqual(worth(floor_net(1, 1), []), -1)
        self.assertEqual(worth(floor_net(1, 2), []), 0)
        self.assertEqual(best(floor_net(1, 2), []), [6])
        self.assertEqual(worth(floor_net(1, 3), []), -1)
        self.assertEqual(best(floor_net(1, 3), []), list(range(10)))
        self.assertEqual(worth(floor_net(2, 2), []), 2)
        self.assertEqual(best(floor_net(2, 2), []), list(range(8)))

    def test_best_sides_are_told_rising_and_only_they(self):
        self.assertEqual(best(ONE, [0, 2]), [1, 3])
        self.assertEqual(best(PAIR, [0, 1, 2]), [6])
        self.assertEqual(best(PAIR, [0, 1, 2, 3, 4, 5]), [6])

    def test_all_small_states_by_all_plays(self):
        for net in small_nets():
            for drawn in all_drawn(net):
                self.assertEqual(worth(net, drawn), reference.value(net, drawn))
                self.assertEqual(best(net, drawn), reference.bests(net, drawn))

    def test_all_states_of_larger_nets(self):
        for net in NETS:
            known = {}
            for drawn in all_drawn(net):
                self.assertEqual(worth(net, drawn), reference.value(net, drawn, known))
                self.assertEqual(best(net, drawn), reference.bests(net, drawn, known))

    def test_the_widest_nets(self):
        for net in WIDEST:
            known = {}
            for drawn in ([], [0], [11], [1, 4, 8], [0, 2, 4, 6, 8, 10], list(range(11))):
                self.assertEqual(worth(net, drawn), reference.value(net, drawn, known))
                self.assertEqual(best(net, drawn), reference.bests(net, drawn, known))

    def test_alike_sides_are_all_told(self):
        self.assertEqual(worth(ALIKE, []), -1)
        self.assertEqual(best(ALIKE, []), list(range(12)))
        self.assertEqual(best(ALIKE, [0, 5, 11]), free(ALIKE, [0, 5, 11]))

    def test_refusals(self):
        self.refuses_no_states(worth)
        self.refuses_no_states(best)

    def test_nothing_is_changed_or_kept(self):
        for net in NETS + WIDEST:
            for drawn in ([], [0], list(range(len(net[1])))):
                for door in (worth, best):
                    self.leaves_all_as_it_is(door, (net[0], list(net[1])), list(drawn))
        self.assertIs(type(best(PAIR, [])), list)


if __name__ == "__main__":
    unittest.main()
