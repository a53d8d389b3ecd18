"""What the tests ask of each door: what it refuses first, and that it keeps and changes nothing."""

from copy import deepcopy

from boxclose.errors import BadDrawn, BadNet

from samples import ALIKE, HUGE, NO_NETS, PAIR, STRAYS, no_drawn


def is_plain(told):
    """Whether all in it are whole numbers, never True or False, or texts, within lists and tuples."""
    if isinstance(told, (list, tuple)):
        return all(is_plain(part) for part in told)
    return type(told) in (int, str)


def lists_in(told):
    """All lists in it, itself too."""
    inner = [found for part in told for found in lists_in(part)] if isinstance(told, (list, tuple)) else []
    return [told] + inner if isinstance(told, list) else inner


class DoorTest:
    """Mixed into a TestCase: checks that are alike at all doors."""

    def refuses(self, kind, door, *args):
        """The door raises this very class."""
        with self.assertRaises(kind) as caught:
            door(*args)
        self.assertIs(type(caught.exception), kind)

    def refuses_no_states(self, door, *rest):
        """A door of a net, drawn sides and the rest refuses the net first, then the drawn sides."""
        for net in NO_NETS:
            self.refuses(BadNet, door, net, [], *rest)
            for drawn in STRAYS + [[0, 0], [HUGE]]:
                self.refuses(BadNet, door, net, drawn, *rest)
        for net in (PAIR, ALIKE):
            for drawn in no_drawn(len(net[1])):
                self.refuses(BadDrawn, door, net, drawn, *rest)

    def leaves_all_as_it_is(self, door, *args):
        """Nothing handed in is changed or kept; what is told is new, plain and the asker's own."""
        before = deepcopy(args)
        told = door(*args)
        first = deepcopy(told)
        self.assertEqual(args, before)
        self.assertTrue(is_plain(told), told)
        handed = [id(found) for found in lists_in(args)]
        self.assertFalse([found for found in lists_in(told) if id(found) in handed])
        own = [id(found) for found in lists_in(told)]
        self.assertEqual(len(set(own)), len(own))
        for found in lists_in(told):
            found.append("spoilt")
            found.insert(0, None)
        self.assertEqual(args, before)
        again = door(*args)
        self.assertEqual(again, first)
        self.assertEqual(args, before)
        for found in lists_in(args):
            found.append("spoilt")
        self.assertEqual(again, first)
        self.assertEqual(door(*before), first)

