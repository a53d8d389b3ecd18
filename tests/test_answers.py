import unittest
from copy import deepcopy

from boxclose.answers import Answer, Gets, Held
from boxclose.lines import led
from boxclose.nets import floor_net
from boxclose.plans import judged
from boxclose.worths import worth

import reference
from doors import DoorTest
from samples import (ALIKE, CHAIN, HUGE, NINE, NINE_FULL, ONE, PAIR, RING, TWIN, all_drawn, fresh, small_nets)

# Two boxes that may be closed at once, by side 2 at last, or one behind the other.
HINGE = (2, [(-1, 0), (-1, 1), (0, 1)])
# The same, by side 4 at last, and a third box that is left then: to the one hand or to the other.
FORK = (3, [(-1, 0), (-1, 1), (-1, 2), (-1, 2), (0, 1)])


def mutants(net, plan):
    """Plans made of one by a single change each."""
    many = len(net[1])
    for at, (drawn, side) in enumerate(plan):
        rest = plan[:at] + plan[at + 1:]
        yield rest
        yield plan[:at] + [plan[at]] + plan[at:]
        yield rest + [plan[at]]
        for other in range(-1, many + 1):
            yield plan[:at] + [(drawn, other)] + plan[at + 1:]
            yield plan[:at] + [(drawn + [other], side)] + plan[at + 1:]
        yield plan[:at] + [(drawn[::-1], side)] + plan[at + 1:]
        yield plan[:at] + [(drawn + drawn, side)] + plan[at + 1:]
    yield plan[::-1]
    yield plan + plan
    yield []
    for drawn in all_drawn(net):
        for side in reference.free_sides(net, drawn):
            yield sorted(plan + [(drawn, side)])
            yield plan + [(drawn, side)]


class Fields(DoorTest, unittest.TestCase):
    """Point [1] and point [7]: what an answer holds."""

    def test_answers_are_answers(self):
        for kind in (Gets, Held):
            self.assertIsInstance(kind([]), Answer)
            self.assertEqual(kind([]).plan, [])
            self.assertEqual(kind([([], 0), ([0, 1], 2)]).plan, [([], 0), ([0, 1], 2)])

    def test_the_field_holds_what_was_handed_in_be_it_a_plan_or_not(self):
        odd = [([3, 1], -7), ([], HUGE), ([-HUGE, -HUGE], 0), ([3, 1], -7)]
        for kind in (Gets, Held):
            self.assertEqual(kind(odd).plan, odd)

    def test_the_field_is_copied_lists_within_too(self):
        for kind in (Gets, Held):
            self.leaves_all_as_it_is(lambda plan: kind(plan).plan, [([], 0), ([0, 1], 2), ([1, 2], 0)])
            plan = [([], 0), ([0, 1], 2)]
            answer = kind(plan)
            plan[0][0].append(9)
            plan.append(([5], 5))
            self.assertEqual(answer.plan, [([], 0), ([0, 1], 2)])
            answer.plan[1][0].clear()
            answer.plan.pop(0)
            self.assertEqual(plan, [([9], 0), ([0, 1], 2), ([5], 5)])

    def test_alike_lists_that_are_one_list_are_copied_each(self):
        drawn = [0]
        answer = Gets([(drawn, 1), (drawn, 1)])
        answer.plan[0][0].append(1)
        self.assertEqual(answer.plan, [([0, 1], 1), ([0], 1)])

    def test_two_answers_of_a_plan_share_nothing(self):
        first = Gets([([], 0), ([0], 1)])
        second = Held(first.plan)
        first.plan[0][0].append(4)
        self.assertEqual(second.plan, [([], 0), ([0], 1)])


class Shows(unittest.TestCase):
    """Point [7]: whether an answer is as it tells."""

    def yes(self, answer, *args):
        self.assertIs(answer.shows(*args), True)

    def no(self, answer, *args):
        self.assertIs(answer.shows(*args), False)

    def test_where_no_side_is_free(self):
        for net in (ONE, TWIN, PAIR, ALIKE):
            drawn = list(range(len(net[1])))
            for least in (-HUGE, -1, 0):
                self.yes(Gets([]), net, drawn, least)
                self.no(Held([]), net, drawn, least)
            for least in (1, 2, HUGE):
                self.no(Gets([]), net, drawn, least)
                self.yes(Held([]), net, drawn, least)

    def test_two_boxes_closed_at_once(self):
        self.yes(Gets([([], 0)]), TWIN, [], 2)
        self.yes(Gets([([], 0)]), TWIN, [], -HUGE)
        self.no(Gets([([], 0)]), TWIN, [], 3)
        self.no(Gets([]), TWIN, [], 2)
        # The other hand never draws, so any plan is one of its.
        self.yes(Held([]), TWIN, [], 3)
        self.yes(Held([([], 0)]), TWIN, [], HUGE)
        self.no(Held([]), TWIN, [], 2)

    def test_one_box(self):
        last = [0, 1, 2]
        self.yes(Gets([(last, 3)]), ONE, last, 1)
        self.no(Gets([(last, 3)]), ONE, last, 2)
        # With two sides left the hand that draws gives the box away.
        answer = Held([([0, 1, 2], 3), ([0, 1, 3], 2)])
        self.yes(answer, ONE, [0, 1], 0)
        self.no(answer, ONE, [0, 1], -1)
        self.no(Held([([0, 1, 2], 3)]), ONE, [0, 1], 0)
        self.yes(Gets([([0, 1], 2)]), ONE, [0, 1], -1)
        self.yes(Gets([([0, 1], 3)]), ONE, [0, 1], -1)
        self.no(Gets([([0, 1], 2)]), ONE, [0, 1], 0)

    def test_a_plan_may_be_worse_than_best(self):
        # Side 0 closes the first box and gives nothing away; behind side 1 the other hand takes both.
        net = (2, [(-1, 0), (-1, 1), (-1, 1)])
        good = [([], 0), ([0], 1)]
        self.assertEqual(worth(net, []), 0)
        self.yes(Gets(good), net, [], 0)
        self.yes(Gets([([], 1)]), net, [], -2)
        self.no(Gets([([], 1)]), net, [], -1)
        self.no(Gets(good), net, [], 1)

    def test_each_spot_that_may_come_needs_a_side(self):
        whole = [([], 0), ([0, 1], 2), ([0, 1, 2], 3), ([0, 2], 1), ([0, 3], 1)]
        self.yes(Gets(whole), ONE, [], -1)
        for at in (0, 1, 3, 4):
            self.no(Gets(whole[:at] + whole[at + 1:]), ONE, [], -HUGE)
        # Behind three sides it is the other hand's turn: that one is told more than is needed.
        self.yes(Gets(whole[:2] + whole[3:]), ONE, [], -1)

    def test_told_more_than_is_needed(self):
        plan = [([], 1), ([0], 3), ([0, 1], 2), ([0, 1, 2], 3), ([1, 2, 3], 0), ([2], 0)]
        self.yes(Gets(plan), ONE, [0, 1, 2], 1)
        self.yes(Gets(plan), ONE, [1, 2, 3], 1)
        self.yes(Gets(plan), ONE, [0, 1], -1)
        self.yes(Held(plan), ONE, [0, 1, 2], 2)
        self.no(Gets(plan), ONE, [0, 1, 3], -5)

    def test_what_is_needless_must_be_right_too(self):
        good = ([0, 1, 2], 3)
        for wrong in [([0], 0), ([0], 4), ([0], -1), ([0], HUGE), ([0], -HUGE), ([0, 0], 1), ([0, 4], 1),
                      ([-1, 0], 1), ([-1], 1), ([HUGE], 1), ([-HUGE], 1), ([1, 0], 2), ([0, 1, 2, 3], 0),
                      ([0, 1, 2, 3], 4), ([], 4), ([], -1)]:
            self.no(Gets(sorted([wrong, good])), ONE, [0, 1, 2], 1)
            self.no(Gets([wrong, good]), ONE, [0, 1, 2], 1)
            self.no(Gets([good, wrong]), ONE, [0, 1, 2], 1)
            self.no(Held(sorted([wrong, good])), ONE, [0, 1, 2], 2)
        self.yes(Gets([([0], 1), good]), ONE, [0, 1, 2], 1)

    def test_plans_that_do_not_rise(self):
        plan = [([0, 1, 2], 3), ([0, 1, 3], 2)]
        self.yes(Held(plan), ONE, [0, 1], 0)
        self.no(Held(plan[::-1]), ONE, [0, 1], 0)
        self.no(Held([plan[0], plan[0], plan[1]]), ONE, [0, 1], 0)
        self.no(Held(plan + plan), ONE, [0, 1], 0)
        # A list rises behind another one in the order of lists, not by its length.
        self.yes(Held([([], 0)] + plan + [([1], 0), ([1, 2], 0), ([2], 0)]), ONE, [0, 1], 0)
        self.no(Held([([], 0), ([1], 0), ([2], 0)] + plan), ONE, [0, 1], 0)

    def test_two_sides_of_one_state(self):
        net = (2, [(-1, 0), (-1, 1)])
        self.yes(Gets([([], 0), ([0], 1)]), net, [], 2)
        self.no(Gets([([], 0), ([], 1), ([0], 1)]), net, [], 2)

    def test_the_turn_does_not_follow_from_the_drawn_sides(self):
        self.assertEqual(led(FORK, [], [0, 1, 4]), (2, 0, 0))
        self.assertEqual(led(FORK, [], [4, 0, 1]), (0, 2, 1))
        for net in (HINGE, FORK, (2, HINGE[1] + [(0, 1)])):
            for drawn in all_drawn(net):
                here = worth(net, drawn)
                for least in range(here - 2, here + 3):
                    answer = judged(net, drawn, least)
                    self.check_against_reference(net, drawn, least, answer.plan)
                    self.yes(answer, net, drawn, least)

    def check_against_reference(self, net, drawn, least, plan):
        self.assertIs(Gets(plan).shows(net, drawn, least), reference.shows_gets(net, drawn, least, plan))
        self.assertIs(Held(plan).shows(net, drawn, least), reference.shows_held(net, drawn, least, plan))

    def test_mutants_of_told_plans(self):
        nets = small_nets()[::9] + [HINGE, FORK, TWIN, ONE]
        for net in nets:
            for drawn in ([], [0], [1])[:1 + len(net[1]) // 2]:
                here = worth(net, drawn)
                for least in (here, here + 1):
                    plan = judged(net, drawn, least).plan
                    for mutant in mutants(net, plan):
                        self.check_against_reference(net, drawn, least, mutant)
                        self.check_against_reference(net, drawn, least - 2, mutant)

    def test_all_plans_of_a_small_net(self):
        net = HINGE
        plans = [[]]
        for drawn in sorted(all_drawn(net)):
            sides = reference.free_sides(net, drawn)
            plans = plans + [plan + [(drawn, side)] for plan in plans for side in sides]
        self.assertEqual(len(plans), 4 * 3 ** 3 * 2 ** 3)
        for plan in plans:
            for least in (-2, 0, 1, 2):
                self.check_against_reference(net, [], least, plan)

    def test_of_other_states_nets_and_numbers(self):
        nets = [TWIN, ONE, HINGE, CHAIN, RING, NINE[:1] + ([(-1, box) for box in range(9)],)]
        answers = [judged(net, [], least) for net in nets for least in (-1, 0, 1, 2)]
        for net in nets[:5]:
            for drawn in all_drawn(net):
                for answer in answers:
                    for least in (-HUGE, -3, -1, 0, 1, 3, HUGE):
                        shown = reference.shows_gets if isinstance(answer, Gets) else reference.shows_held
                        told = answer.shows(net, drawn, least)
                        self.assertIs(told, shown(net, drawn, least, answer.plan))

    def test_many_pairs(self):
        plan = [([0, 1, 2], 3)]
        self.no(Gets(plan * 100000), ONE, [0, 1, 2], 1)
        self.no(Gets([(list(range(100000)), 3)]), ONE, [0, 1, 2], 1)
        self.no(Gets([([0] * 100000, 3)] + plan), ONE, [0, 1, 2], 1)
        # Each state of the widest net told.
        every = sorted((drawn, min(set(range(12)) - set(drawn))) for drawn in all_drawn(ALIKE)[:-1])
        self.assertEqual(len(every), 4095)
        self.yes(Gets(every), ALIKE, [], -1)
        self.no(Gets(every), ALIKE, [], 0)
        self.yes(Held(every), ALIKE, [], 0)
        every.remove((list(range(1, 12)), 0))
        self.no(Held(every), ALIKE, list(range(1, 11)), 0)

    def test_never_both(self):
        every = sorted((drawn, reference.free_sides(PAIR, drawn)[-1]) for drawn in all_drawn(PAIR)[:-1])
        for least in range(-3, 4):
            self.assertFalse(Gets(every).shows(PAIR, [], least) and Held(every).shows(PAIR, [], least))

    def test_nothing_is_changed(self):
        for kind in (Gets, Held):
            answer = kind([([0, 1, 2], 3), ([0, 1, 3], 2)])
            before = deepcopy(answer.plan)
            net = fresh(ONE)
            drawn = [0, 1]
            answer.shows(net, drawn, 0)
            self.assertEqual((answer.plan, net, drawn), (before, ONE, [0, 1]))

    def test_the_field_is_read_as_it_stands(self):
        answer = Held([([0, 1, 2], 3), ([0, 1, 3], 2)])
        self.yes(answer, ONE, [0, 1], 0)
        last = answer.plan.pop()
        self.no(answer, ONE, [0, 1], 0)
        answer.plan.append(last)
        self.yes(answer, ONE, [0, 1], 0)
        answer.plan[0][0][2] = 3
        self.no(answer, ONE, [0, 1], 0)
        answer.plan[0][0][2] = 2
        self.yes(answer, ONE, [0, 1], 0)
        answer.plan.reverse()
        self.no(answer, ONE, [0, 1], 0)
        answer.plan = [([0, 1, 2], 3), ([0, 1, 3], 2)]
        self.yes(answer, ONE, [0, 1], 0)
        answer.plan[1] = ([0, 1, 3], 3)
        self.no(answer, ONE, [0, 1], 0)

    def test_a_field_that_is_no_list_of_pairs(self):
        answer = Gets([])
        for wrong in ([[[0, 1, 2], 3]], [([0, 1, 2],)], [([0, 1, 2], 3, 3)], (([0, 1, 2], 3),), [((0, 1, 2), 3)],
                      [([0, True, 2], 3)], None, [None]):
            answer.plan = wrong
            self.no(answer, ONE, [0, 1, 2], 1)

    def test_net_and_drawn_sides_changed_in_place_between_two_calls(self):
        answer = Gets([([0, 1, 2], 3)])
        net = fresh(ONE)
        drawn = [0, 1, 2]
        self.yes(answer, net, drawn, 1)
        net[1].append((-1, 0))
        self.no(answer, net, drawn, 1)
        net[1].pop()
        drawn.append(3)
        self.no(answer, net, drawn, 1)
        self.yes(answer, net, drawn, 0)
        drawn.pop()
        self.yes(answer, net, drawn, 1)

    def test_the_widest_nets(self):
        for net in (floor_net(2, 2), NINE_FULL, ALIKE):
            here = worth(net, [])
            gets, held = judged(net, [], here), judged(net, [], here + 1)
            self.yes(gets, net, [], here)
            self.no(gets, net, [], here + 1)
            self.yes(held, net, [], here + 1)
            self.no(held, net, [], here)
            self.no(Gets(gets.plan[1:]), net, [], -HUGE)
            self.no(Gets(gets.plan[:-1]), net, [], -HUGE)
            self.no(Held(held.plan[1:]), net, [], HUGE)


if __name__ == "__main__":
    unittest.main()
