import unittest

from boxclose.answers import Gets, Held
from boxclose.errors import BadDrawn, BadNet, BadNumber
from boxclose.nets import floor_net
from boxclose.plans import judged
from boxclose.worths import worth

import reference
from doors import DoorTest, is_plain
from samples import (ALIKE, CHAIN, HUGE, KINDRED, NETS, NO_NUMBERS, ONE, PAIR, RING, SQUARE, TWIN, WIDEST, all_drawn,
                     fresh, small_nets)


def told_plan(net, drawn, least):
    return judged(net, drawn, least).plan


class Judged(DoorTest, unittest.TestCase):
    """Point [7]."""

    def walks(self, net, drawn, answer):
        """What the hand of the answer gets more at the least, its plan walked against each answer of the other."""
        self.assertTrue(reference.is_plan(net, answer.plan))
        return reference.assured(net, drawn, type(answer) is Gets, answer.plan)

    def holds(self, net, drawn, least):
        """The answer is of the one kind that the worth tells, and its plan holds."""
        answer = judged(net, drawn, least)
        if reference.value(net, drawn, {}) >= least:
            self.assertIs(type(answer), Gets)
            self.assertGreaterEqual(self.walks(net, drawn, answer), least)
        else:
            self.assertIs(type(answer), Held)
            self.assertLess(-self.walks(net, drawn, answer), least)
        self.assertIs(answer.shows(net, drawn, least), True)
        other = Held(answer.plan) if type(answer) is Gets else Gets(answer.plan)
        self.assertIs(other.shows(net, drawn, least), False)

    def test_where_no_side_is_free(self):
        for net in NETS + WIDEST:
            drawn = list(range(len(net[1])))
            for least, kind in ((-HUGE, Gets), (-1, Gets), (0, Gets), (1, Held), (HUGE, Held)):
                answer = judged(net, drawn, least)
                self.assertIs(type(answer), kind)
                self.assertEqual(answer.plan, [])
                self.assertIs(answer.shows(net, drawn, least), True)

    def test_two_boxes_closed_at_once(self):
        self.assertIs(type(judged(TWIN, [], 2)), Gets)
        self.assertEqual(judged(TWIN, [], 2).plan, [([], 0)])
        self.assertIs(type(judged(TWIN, [], 3)), Held)

    def test_just_where_the_worth_is_no_less(self):
        for net in NETS:
            here = worth(net, [])
            for least in range(-10, 11):
                self.assertIs(type(judged(net, [], least)), Gets if here >= least else Held)
            self.assertIs(type(judged(net, [], -HUGE)), Gets)
            self.assertIs(type(judged(net, [], HUGE)), Held)

    def test_who_opens_a_chain_loses_it(self):
        answer = judged(CHAIN, [], -2)
        self.assertIs(type(answer), Held)
        self.assertEqual(self.walks(CHAIN, [], answer), 3)
        answer = judged(CHAIN, [], -3)
        self.assertIs(type(answer), Gets)
        self.assertEqual(self.walks(CHAIN, [], answer), -3)

    def test_all_small_states(self):
        for net in small_nets():
            for drawn in all_drawn(net):
                here = reference.value(net, drawn, {})
                for least in (here - 1, here, here + 1):
                    self.holds(net, drawn, least)

    def test_larger_nets(self):
        for net in (PAIR, RING, KINDRED):
            for drawn in ([], [0], [1, 3]):
                here = reference.value(net, drawn, {})
                for least in (-HUGE, here - 2, here, here + 1, here + 2, HUGE):
                    self.holds(net, drawn, least)

    def test_the_widest_nets(self):
        for net in WIDEST:
            for drawn in ([1, 4, 8, 9, 10], [0, 2, 4, 6, 8, 10], list(range(11))):
                here = reference.value(net, drawn, {})
                self.holds(net, drawn, here)
                self.holds(net, drawn, here + 1)
            here = worth(net, [])
            self.assertIs(judged(net, [], here).shows(net, [], here), True)
            self.assertIs(judged(net, [], here + 1).shows(net, [], here + 1), True)

    def test_what_is_told_is_plain_and_the_askers_own(self):
        for net in NETS + [SQUARE]:
            for least in (-9, 0, 9):
                plan = told_plan(net, [], least)
                self.assertIs(type(plan), list)
                self.assertEqual({(type(pair), type(pair[0]), type(pair[1])) for pair in plan} - {(tuple, list, int)},
                                 set())
                self.assertTrue(is_plain(plan))
                self.leaves_all_as_it_is(told_plan, fresh(net), [], least)
                self.leaves_all_as_it_is(told_plan, fresh(net), [0], least)

    def test_what_is_told_may_be_changed_and_changes_no_later_answer(self):
        first = judged(ONE, [0], 1)
        before = told_plan(ONE, [0], 1)
        first.plan.clear()
        self.assertEqual(told_plan(ONE, [0], 1), before)
        self.assertIs(judged(ONE, [0], 1).shows(ONE, [0], 1), True)

    def test_changed_in_place_between_two_calls(self):
        net = fresh(ONE)
        drawn = [0]
        self.assertIs(type(judged(net, drawn, 1)), Gets)
        drawn.append(1)
        self.assertIs(type(judged(net, drawn, 1)), Held)
        drawn.pop()
        net[1].append((-1, 0))
        self.assertIs(type(judged(net, drawn, 1)), Held)
        net[1].pop()
        self.assertIs(type(judged(net, drawn, 1)), Gets)


class Refusals(DoorTest, unittest.TestCase):
    def test_states(self):
        self.refuses_no_states(judged, 0)
        self.refuses_no_states(judged, None)
        self.refuses_no_states(judged, True)

    def test_no_number(self):
        for net in (ONE, PAIR, ALIKE):
            for drawn in ([], [0], list(range(len(net[1])))):
                for wrong in NO_NUMBERS:
                    self.refuses(BadNumber, judged, net, drawn, wrong)

    def test_the_refusal_that_is_told_first(self):
        self.refuses(BadNet, judged, (1, []), [0], "0")
        self.refuses(BadNet, judged, None, None, None)
        self.refuses(BadDrawn, judged, ONE, [4], "0")
        self.refuses(BadDrawn, judged, ONE, (), True)

    def test_any_number_will_do(self):
        for least in (0, -1, 1, HUGE, -HUGE):
            self.assertIn(type(judged(floor_net(1, 1), [], least)), (Gets, Held))


if __name__ == "__main__":
    unittest.main()
