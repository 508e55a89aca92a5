"""Promises [2] and [10], and the changes of the interface on handrounds/change/changes.py."""

import unittest

from handrounds.change.changes import Change, Close, Difference, Join, Leave, Open, Pause
from handrounds.errors import BadNet, UnknownNode
from handrounds.nets.nets import Net
from handrounds.rounds.couriers import Courier
from handrounds.rounds.rounds import Round
from samples import ANNA, BERT, BILLION, EIGHT, FAR, FARTHEST, NET, NO_NAMES

CARL = Courier("carl", Round(10, (4, "mill")), 2, 7)
TWELVE = tuple(Courier(name, Round(60, *EIGHT), 0, 0) for name in "abcdefghijkl")
KINDS = (Pause, Leave, Join, Open, Close)
# One change of each kind, then others that differ from it in one attribute.
ROWS = (
    (lambda: Pause("anna", 2), Pause("anna", 3), Pause("bert", 2)),
    (lambda: Leave("anna"), Leave("bert")),
    (lambda: Join(Courier("carl", Round(10, (4, "mill")), 2, 7)), Join(ANNA), Join(Courier("carl", CARL.way, 2, 8)),
     Join(Courier("carl", CARL.way, 3, 7)), Join(Courier("carl", Round(10, (5, "mill")), 2, 7))),
    (lambda: Open("anna"), Open("port")),
    (lambda: Close("anna"), Close("port")),
)


def full(*places):
    """A net that has no room for another courier, and these boxes."""
    return Net(TWELVE, places)


class Attributes(unittest.TestCase):
    def test_by_position_and_by_keyword(self):
        for kind, names, values in (
                (Pause, ("name", "ticks"), ("anna", 2)), (Leave, ("name",), ("anna",)), (Join, ("newcomer",), (CARL,)),
                (Open, ("place",), ("port",)), (Close, ("place",), ("port",))):
            given = dict(zip(names, values))
            for one in (kind(*values), kind(**given)):
                self.assertEqual(vars(one), given)
                for name in names:
                    self.assertIs(getattr(one, name), given[name])

    def test_kinds(self):
        for kind in KINDS:
            self.assertEqual(kind.__bases__, (Change,))
        self.assertEqual(vars(Change()), {})

    def test_making_one_checks_nothing(self):
        for name in NO_NAMES:
            for one in (Pause(name, 1), Leave(name)):
                self.assertEqual(one.name, name)
            for one in (Open(name), Close(name)):
                self.assertEqual(one.place, name)


class Told(unittest.TestCase):
    def test_each(self):
        self.assertEqual(Change().told(), "change")
        self.assertEqual(Pause("anna", 12).told(), "change: pause anna for 12")
        self.assertEqual(Pause("bert", BILLION).told(), "change: pause bert for 1000000000")
        self.assertEqual(Leave("anna").told(), "change: leave anna")
        self.assertEqual(Join(CARL).told(), "change: join carl")
        self.assertEqual(Open("port").told(), "change: open port")
        self.assertEqual(Close("mill").told(), "change: close mill")


class Equal(unittest.TestCase):
    def test_the_same_class_and_equal_attributes(self):
        for make, *_ in ROWS:
            self.assertIs(make() == make(), True)
            self.assertIs(make() != make(), False)
        self.assertIs(Change() == Change(), True)
        self.assertIs(Change() != Change(), False)

    def test_other_attributes(self):
        for make, *others in ROWS:
            for other in others:
                self.assertIs(make() == other, False)
                self.assertIs(other == make(), False)
                self.assertIs(make() != other, True)

    def test_other_classes(self):
        every = [make() for make, *_ in ROWS] + [Change()]
        for one in every:
            for other in every:
                self.assertIs(one == other, one is other, (one.told(), other.told()))
                self.assertIs(one != other, one is not other)
                self.assertIs(type(one).__eq__(one, other), one is other)

    def test_a_class_below_is_another_class(self):
        for make, *_ in ROWS:
            one, other = make(), make()
            other.__class__ = type("Below", (type(one),), {})
            self.assertIs(other == other, True)
            for left, right in ((one, other), (other, one), (Change(), other), (other, Change())):
                self.assertIs(left == right, False)

    def test_other_kinds(self):
        for one in [make() for make, *_ in ROWS] + [Change()]:
            for other in (one.told(), "anna", "port", ("anna", 2), ANNA, CARL, NET, 2, 0, None, True, False, (), {}, [],
                          type(one), Change, object()):
                self.assertIs(one == other, False)
                self.assertIs(other == one, False)
                self.assertIs(one != other, True)


class ApplyCase(unittest.TestCase):
    def assert_applied(self, net, change, tick, couriers, boxes):
        """It returns the net of these, and the net before it stays as it was."""
        before = Net(tuple(net.courier(name) for name in net.hands), net.boxes)
        for told in (change.apply(net, tick), change.apply(net=net, tick=tick)):
            self.assertIs(type(told), Net)
            self.assertEqual(told, Net(couriers, boxes), (net, change.told(), tick))
            for courier in couriers:
                self.assertEqual(told.courier(courier.name), courier)
        self.assertEqual(net, before)

    def assert_raises(self, kind, name, net, change, tick=5):
        with self.subTest(net=net, change=change.told()), self.assertRaises(kind) as caught:
            change.apply(net, tick)
        self.assertIs(type(caught.exception), kind)
        self.assertEqual(caught.exception.name, name)


class Apply(ApplyCase):
    def test_the_base_class_changes_nothing(self):
        for net in (Net((), ()), NET, full("port")):
            self.assertIs(Change().apply(net, 5), net)

    def test_pause_before_at_and_behind_the_tick_since_which_it_goes(self):
        going = Courier("carl", CARL.way, 2, 20)
        for tick, since in ((0, 23), (19, 23), (20, 23), (21, 24), (50, 53), (FAR, FAR + 3)):
            self.assert_applied(Net((ANNA, going), ("port",)), Pause("carl", 3), tick,
                                (ANNA, Courier("carl", CARL.way, 5, since)), ("port",))

    def test_pause_of_the_least_and_the_greatest_number_of_ticks(self):
        for ticks in (1, BILLION):
            for start in (-FARTHEST, 0, FARTHEST):
                one = Courier("anna", ANNA.way, start, 7)
                self.assert_applied(Net((one, BERT), ()), Pause("anna", ticks), 9,
                                    (Courier("anna", ANNA.way, start + ticks, 9 + ticks), BERT), ())

    def test_what_a_paused_courier_does(self):
        # By hand: anna is at mill at 7 and at port at 9; after a pause for 5 ticks at 8, at port at 14.
        after = Pause("anna", 5).apply(NET, 8).courier("anna")
        self.assertEqual([after.place_at(tick) for tick in (7, 9, 12, 13, 14, 18, 20)],
                         ["", "", "", "", "port", "mill", "port"])

    def test_leave(self):
        self.assert_applied(NET, Leave("anna"), 5, (BERT,), ("port",))
        self.assert_applied(NET, Leave("bert"), FAR, (ANNA,), ("port",))
        self.assert_applied(Net((ANNA,), ()), Leave("anna"), 0, (), ())
        self.assert_applied(full("a"), Leave("l"), 0, TWELVE[:11], ("a",))

    def test_join_before_at_and_behind_the_tick_since_which_it_goes(self):
        for tick, since in ((0, 7), (6, 7), (7, 7), (8, 8), (50, 50), (FAR, FAR)):
            self.assert_applied(NET, Join(CARL), tick, (ANNA, BERT, Courier("carl", CARL.way, 2, since)), ("port",))
        self.assertEqual((CARL.start, CARL.since), (2, 7))

    def test_join_as_the_first_and_as_the_twelfth(self):
        self.assert_applied(Net((), ()), Join(CARL), 3, (CARL,), ())
        self.assert_applied(Net(TWELVE[1:], ("port",)), Join(TWELVE[0]), 0, TWELVE, ("port",))

    def test_open(self):
        self.assert_applied(NET, Open("mill"), 5, (ANNA, BERT), ("mill", "port"))
        self.assert_applied(Net((), ()), Open("anna"), 0, (), ("anna",))
        self.assert_applied(full(*"abcdefghijk"), Open("zzzzzzzzzzzz"), FAR, TWELVE, tuple("abcdefghijk") + ("z" * 12,))

    def test_close(self):
        self.assert_applied(NET, Close("port"), 5, (ANNA, BERT), ())
        self.assert_applied(Net((ANNA,), ("port", "mill", "ford")), Close("mill"), 0, (ANNA,), ("ford", "port"))
        self.assert_applied(full(*"abcdefghijkl"), Close("l"), FAR, TWELVE, tuple("abcdefghijk"))

    def test_a_courier_and_a_box_of_one_name(self):
        mill = Courier("mill", Round(3, (0, "mill")), 0, 0)
        net = Net((mill,), ("mill",))
        self.assert_applied(net, Close("mill"), 4, (mill,), ())
        self.assert_applied(net, Leave("mill"), 4, (), ("mill",))
        self.assert_applied(net, Pause("mill", 2), 4, (Courier("mill", mill.way, 2, 6),), ("mill",))
        self.assert_applied(Net((mill,), ()), Open("mill"), 4, (mill,), ("mill",))
        self.assert_applied(Net((), ("mill",)), Join(mill), 0, (mill,), ("mill",))

    def test_one_after_another(self):
        net = Join(CARL).apply(Leave("anna").apply(NET, 9), 9)
        net = Close("port").apply(Open("mill").apply(Pause("carl", 4).apply(net, 12), 12), 12)
        self.assertEqual(net, Net((BERT, Courier("carl", CARL.way, 6, 16)), ("mill",)))


class ApplyWrong(ApplyCase):
    def test_no_such_courier(self):
        for net in (Net((), ()), NET, full("carl", "port")):
            for name in ("carl", "ann", "annab", "port", "mill", "@port", "@carl", "@anna") + NO_NAMES:
                self.assert_raises(UnknownNode, name, net, Leave(name))
                self.assert_raises(UnknownNode, name, net, Pause(name, 1))
                self.assert_raises(UnknownNode, name, net, Pause(name, BILLION), FAR)

    def test_no_such_box(self):
        for net in (Net((), ()), NET, full("carl", "port")):
            for place in ("mill", "por", "portb", "anna", "a", "@port") + NO_NAMES:
                self.assert_raises(UnknownNode, "@" + place, net, Close(place))

    def test_a_newcomer_that_is_there(self):
        for late in (ANNA, Courier("anna", Round(3), 99, 99), Courier("bert", ANNA.way, 1, 0)):
            self.assert_raises(BadNet, late.name, NET, Join(late))

    def test_the_thirteenth_courier(self):
        self.assert_raises(BadNet, "carl", full(), Join(CARL))
        self.assert_raises(BadNet, "a", full(), Join(Courier("a", ANNA.way, 1, 0)))
        self.assert_raises(BadNet, "zz", full("zz"), Join(Courier("zz", ANNA.way, 1, 0)))

    def test_a_place_that_is_there(self):
        self.assert_raises(BadNet, "port", NET, Open("port"))
        self.assert_raises(BadNet, "b", full("c", "b", "a"), Open("b"))

    def test_the_thirteenth_place(self):
        for place in ("port", "a", "l", "zzzz") + NO_NAMES:
            self.assert_raises(BadNet, place, Net((), tuple("abcdefghijkl")), Open(place))

    def test_a_place_that_is_no_name(self):
        for place in NO_NAMES:
            for net in (Net((), ()), NET, full("port")):
                self.assert_raises(BadNet, place, net, Open(place))

    def test_a_wrong_change_leaves_nothing_behind(self):
        net = full("port")
        self.assert_raises(BadNet, "carl", net, Join(CARL))
        self.assert_raises(BadNet, "port", net, Open("port"))
        self.assert_raises(UnknownNode, "carl", net, Leave("carl"))
        self.assertEqual((net, CARL), (Net(TWELVE, ("port",)), Courier("carl", Round(10, (4, "mill")), 2, 7)))


class NothingChanges(unittest.TestCase):
    def test_calls_can_be_repeated(self):
        changes = [make() for make, *_ in ROWS[:3]] + [Open("mill"), Close("port"), Change()]
        calls = [lambda change=change, tick=tick: change.apply(NET, tick) for change in changes for tick in (0, 9, FAR)]
        calls += [change.told for change in changes]
        first = [call() for call in calls]
        self.assertEqual([call() for call in reversed(calls)], first[::-1])
        self.assertEqual(NET, Net((BERT, ANNA), ("port",)))
        self.assertEqual(changes, [make() for make, *_ in ROWS[:3]] + [Open("mill"), Close("port"), Change()])

    def test_a_difference_is_a_class_of_its_own(self):
        self.assertIsInstance(vars(Difference)["is_nothing"], property)
        self.assertFalse(issubclass(Difference, Change))


if __name__ == "__main__":
    unittest.main()
