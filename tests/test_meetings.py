"""Promises [2] and [5], and the section of the interface on handrounds/nets/meetings.py."""

import inspect
import itertools
import math
import random
import unittest

from handrounds.errors import UnknownNode
from handrounds.nets.meetings import ever_meet, last_meeting, meetings, next_meeting
from handrounds.nets.nets import Net
from handrounds.rounds.couriers import Courier
from handrounds.rounds.rounds import Round
from samples import (
    ANNA, BERT, BILLION, FAR, FARTHEST, NET, NO_NAMES, met, net_of, nodes_of, some_boxes, some_rows, stretched)


class MeetingCase(unittest.TestCase):
    def assert_next(self, net, one, two, tick, wanted):
        self.assertEqual(next_meeting(net, one, two, tick), wanted, (net, one, two, tick))
        self.assertEqual(next_meeting(net, two, one, tick), wanted, (net, two, one, tick))

    def assert_last(self, net, one, two, tick, wanted):
        self.assertEqual(last_meeting(net, one, two, tick), wanted, (net, one, two, tick))
        self.assertEqual(last_meeting(net, two, one, tick), wanted, (net, two, one, tick))

    def assert_all(self, net, one, two, tick, end, wanted):
        self.assertEqual(list(meetings(net, one, two, tick, end)), wanted, (net, one, two, tick, end))
        self.assertEqual(list(meetings(net, two, one, tick, end)), wanted, (net, two, one, tick, end))

    def assert_never(self, net, one, two):
        for tick in (0, 1, 7, BILLION, FAR):
            self.assert_next(net, one, two, tick, None)
            self.assert_last(net, one, two, tick, None)
            self.assert_all(net, one, two, tick, FAR, [])
        self.assertIs(ever_meet(net, one, two), False)
        self.assertIs(ever_meet(net, two, one), False)


class Examples(MeetingCase):
    """By hand: anna is at mill at 1, 7, 13, 19 .. and at port at 3, 9, 15 ..; bert is at mill at 3, 7, 11, 15, 19 .."""

    def test_the_example_of_the_document(self):
        told = [NET.nodes, next_meeting(NET, "anna", "bert", 8), list(meetings(NET, "@port", "anna", 0, 20)),
                next_meeting(NET, "bert", "@port", 0)]
        self.assertEqual(repr(told), "[('@port', 'anna', 'bert'), (19, 'mill'), "
                                     "[(3, 'port'), (9, 'port'), (15, 'port')], None]")

    def test_two_couriers(self):
        for tick, following, last in ((0, 7, None), (6, 7, None), (7, 7, 7), (8, 19, 7), (18, 19, 7), (19, 19, 19)):
            self.assert_next(NET, "anna", "bert", tick, (following, "mill"))
            self.assert_last(NET, "anna", "bert", tick, last if last is None else (last, "mill"))
        self.assert_all(NET, "anna", "bert", 0, 50, [(7, "mill"), (19, "mill"), (31, "mill"), (43, "mill")])
        self.assertIs(ever_meet(NET, "anna", "bert"), True)

    def test_a_courier_and_a_box(self):
        for tick, following, last in ((0, 3, None), (2, 3, None), (3, 3, 3), (4, 9, 3), (8, 9, 3), (9, 9, 9)):
            self.assert_next(NET, "anna", "@port", tick, (following, "port"))
            self.assert_last(NET, "anna", "@port", tick, last if last is None else (last, "port"))
        self.assertIs(ever_meet(NET, "@port", "anna"), True)

    def test_a_courier_that_never_comes_to_the_box(self):
        self.assert_never(NET, "bert", "@port")

    def test_two_boxes(self):
        net = Net((ANNA,), ("port", "mill"))
        self.assert_never(net, "@port", "@mill")
        self.assert_never(Net((), ("a", "b")), "@a", "@b")

    def test_several_places_in_turn(self):
        one = Courier("one", Round(5, (0, "a"), (2, "b"), (3, "c")), 0, 0)
        two = Courier("two", Round(5, (0, "a"), (2, "x"), (3, "c")), 0, 0)
        self.assert_all(Net((one, two), ()), "one", "two", 3, 14, [(3, "c"), (5, "a"), (8, "c"), (10, "a"), (13, "c")])

    def test_a_box_meets_in_several_stops_of_a_round(self):
        one = Courier("one", Round(9, (1, "a"), (2, "b"), (6, "a")), 0, 0)
        self.assert_all(Net((one,), ("a", "c")), "@a", "one", 2, 20, [(6, "a"), (10, "a"), (15, "a"), (19, "a")])

    def test_going_since_different_ticks(self):
        one = Courier("one", Round(2, (0, "a")), 0, 5)
        two = Courier("two", Round(3, (0, "a")), 0, 13)
        net = Net((one, two), ("a",))
        self.assert_all(net, "one", "two", 0, 31, [(18, "a"), (24, "a"), (30, "a")])
        self.assert_last(net, "one", "two", 17, None)
        self.assert_last(net, "one", "two", 18, (18, "a"))
        self.assert_all(net, "one", "@a", 0, 11, [(6, "a"), (8, "a"), (10, "a")])
        self.assert_all(net, "two", "@a", 0, 22, [(15, "a"), (18, "a"), (21, "a")])

    def test_going_since_the_very_tick_of_a_meeting(self):
        net = Net((Courier("one", Round(2, (0, "a")), 0, 12), Courier("two", Round(3, (0, "a")), 0, 4)), ())
        self.assert_next(net, "one", "two", 0, (12, "a"))
        self.assert_last(net, "one", "two", 12, (12, "a"))
        self.assert_last(net, "one", "two", 11, None)

    def test_several_pairs_at_one_tick(self):
        rows = [Courier(name, Round(period, (0, "a")), 0, 0) for name, period in (("x", 2), ("y", 3), ("z", 5))]
        net = Net(tuple(rows), ("a", "b"))
        for one, two in itertools.combinations(("@a", "x", "y", "z"), 2):
            self.assert_next(net, one, two, 30, (30, "a"))
            self.assert_last(net, one, two, 30, (30, "a"))
        self.assert_next(net, "x", "y", 31, (36, "a"))
        self.assert_next(net, "x", "z", 31, (40, "a"))
        self.assert_next(net, "y", "z", 31, (45, "a"))

    def test_a_round_without_stops(self):
        net = Net((ANNA, Courier("none", Round(3), 0, 0)), ("port", "mill"))
        for node in ("anna", "@port", "@mill"):
            self.assert_never(net, "none", node)

    def test_always_at_one_place(self):
        net = Net((ANNA, Courier("host", Round(1, (0, "mill")), -4, 8)), ("mill",))
        self.assert_all(net, "host", "anna", 0, 26, [(13, "mill"), (19, "mill"), (25, "mill")])
        self.assert_all(net, "host", "@mill", 5, 12, [(tick, "mill") for tick in range(8, 12)])

    def test_nobody_meets_nowhere(self):
        net = Net((Courier("one", Round(3, (0, "a")), 0, 0), Courier("two", Round(3, (1, "b")), 0, 0)), ())
        self.assert_never(net, "one", "two")

    def test_at_one_place_but_never_at_one_tick(self):
        net = Net((Courier("one", Round(6, (0, "a")), 0, 0), Courier("two", Round(4, (1, "a")), 0, 0)), ())
        self.assert_never(net, "one", "two")

    def test_by_keyword(self):
        self.assertEqual(next_meeting(net=NET, one="anna", two="bert", tick=8), (19, "mill"))
        self.assertEqual(last_meeting(tick=8, two="bert", one="anna", net=NET), (7, "mill"))
        self.assertEqual(list(meetings(NET, end=10, tick=0, one="anna", two="@port")), [(3, "port"), (9, "port")])
        self.assertIs(ever_meet(NET, two="anna", one="bert"), True)

    def test_kinds_of_the_answers(self):
        told = [next_meeting(NET, "anna", "bert", 0), last_meeting(NET, "anna", "bert", 9),
                next(meetings(NET, "anna", "bert", 0, 50))]
        self.assertEqual([type(pair) for pair in told], [tuple] * 3)
        self.assertTrue(inspect.isgenerator(meetings(NET, "anna", "bert", 0, 50)))


class Stretches(MeetingCase):
    """What `meetings` yields from a tick on and before another one."""

    def test_ends(self):
        for tick, end, wanted in ((7, 8, [7]), (7, 7, []), (7, 19, [7]), (7, 20, [7, 19]), (8, 19, []), (8, 20, [19]),
                                  (0, 0, []), (0, 7, []), (9, 3, []), (20, 7, []), (19, 0, []), (8, 18, [])):
            self.assert_all(NET, "anna", "bert", tick, end, [(at, "mill") for at in wanted])

    def test_a_long_stretch_without_a_meeting(self):
        one = Courier("one", Round(BILLION, (0, "a")), 0, 0)
        two = Courier("two", Round(BILLION - 1, (0, "a")), 0, 1)
        net = Net((one, two), ())
        self.assert_all(net, "one", "two", 0, BILLION * (BILLION - 1), [])
        self.assert_all(net, "one", "two", 0, BILLION * (BILLION - 1) + 1, [(BILLION * (BILLION - 1), "a")])

    def test_only_as_many_as_are_asked_for(self):
        found = meetings(NET, "anna", "bert", 0, FAR)
        self.assertEqual([next(found) for _ in range(3)], [(7, "mill"), (19, "mill"), (31, "mill")])

    def test_many(self):
        found = list(meetings(NET, "anna", "@port", FAR, FAR + 60000))
        self.assertEqual(len(found), 10000)
        self.assertEqual(found, sorted(found))
        self.assertEqual([pair for pair in found if pair[0] % 6 != 3 or pair[1] != "port"], [])

    def test_two_at_the_same_time(self):
        one, two = meetings(NET, "anna", "bert", 0, 50), meetings(NET, "anna", "@port", 0, 50)
        self.assertEqual([next(one), next(two), next(one), next(two)],
                         [(7, "mill"), (3, "port"), (19, "mill"), (9, "port")])


class TickByTick(MeetingCase):
    """Short periods, compared with points 4 and 5 at each single tick over two rounds of all."""

    def compare(self, rows, boxes):
        net = net_of(rows, boxes)
        once = math.lcm(*[row[1] for row in rows])
        end = max(row[4] for row in rows) + 2 * once + 1
        for one, two in itertools.combinations(nodes_of(rows, boxes), 2):
            places = [(tick, met(rows, tick, one, two)) for tick in range(end + once)]
            here = [pair for pair in places if pair[1] != ""]
            self.assert_all(net, one, two, 0, end + once, here)
            self.assertIs(ever_meet(net, one, two), bool(here))
            self.assertIs(ever_meet(net, two, one), bool(here))
            for tick in range(end):
                self.assert_next(net, one, two, tick, min([pair for pair in here if pair[0] >= tick], default=None))
                self.assert_last(net, one, two, tick, max([pair for pair in here if pair[0] <= tick], default=None))

    def test_each_two_short_periods(self):
        for period, other in itertools.product((1, 2, 3, 4, 6), repeat=2):
            for start, since in ((-5, 0), (3, 4)):
                rows = [("one", period, ((0, "a"),), 0, 2),
                        ("two", other, tuple((tick, "aab"[tick % 3]) for tick in range(other))[1:], start, since)]
                self.compare(rows, ("b", "a", "c"))

    def test_drawn_nets(self):
        chance = random.Random(11)
        for _ in range(40):
            self.compare(some_rows(chance, chance.randint(1, 4)), some_boxes(chance, chance.randint(0, 3)))


class AtOnce(MeetingCase):
    """Long periods and far ticks, that no counting would get through."""

    def assert_first(self, net, one, two, tick, period, remainders):
        """The next meeting is the only one within the common period that fits both couriers."""
        told = next_meeting(net, one, two, tick)
        self.assertEqual(next_meeting(net, two, one, tick), told)
        self.assertTrue(tick <= told[0] < tick + period)
        for modulus, remainder in remainders:
            self.assertEqual(told[0] % modulus, remainder % modulus)
        if tick > 0:
            self.assert_last(net, one, two, told[0] + period - 1, told)
        self.assert_all(net, one, two, tick, told[0] + 2 * period + 1,
                        [(told[0] + turn * period, told[1]) for turn in range(3)])

    def test_with_and_without_common_divisors(self):
        periods = (BILLION, BILLION - 1, BILLION - 7, BILLION // 2, BILLION // 3, 2 ** 29, 3 ** 18, 7, 1)
        for one, two in itertools.product(periods, repeat=2):
            divisor = math.gcd(one, two)
            for start, tick in ((0, 0), (-FARTHEST, 12345), (FARTHEST, FAR), (-1, FAR - 1)):
                at = (start + 17 * divisor) % two
                net = Net((Courier("one", Round(one, (one - 1, "a")), start - one + 1, 0),
                           Courier("two", Round(two, (at, "a")), 0, 0)), ())
                with self.subTest(one=one, two=two, start=start, tick=tick):
                    self.assert_first(net, "one", "two", tick, math.lcm(one, two), ((one, start), (two, at)))

    def test_common_divisors_that_keep_them_apart(self):
        for one, two in ((BILLION, BILLION), (BILLION, BILLION // 2), (BILLION // 2, BILLION), (2 ** 29, 2 ** 10)):
            net = Net((Courier("one", Round(one, (0, "a")), 0, 0), Courier("two", Round(two, (0, "a")), 1, 0)), ())
            self.assert_never(net, "one", "two")

    def test_equal_long_periods(self):
        net = Net((Courier("one", Round(BILLION, (5, "a"), (BILLION - 1, "b")), 0, 0),
                   Courier("two", Round(BILLION, (2, "b"), (8, "a")), -3, 0)), ())
        self.assert_all(net, "one", "two", 0, 3 * BILLION, [
            (turn * BILLION + at, place) for turn in range(3) for at, place in ((5, "a"), (BILLION - 1, "b"))])

    def test_a_far_tick_since(self):
        for since, other in ((FAR, 0), (0, FAR), (FAR, FAR - 5)):
            net = Net((Courier("one", Round(BILLION, (0, "a")), 5, since),
                       Courier("two", Round(BILLION - 1, (0, "a")), 5, other)), ("a",))
            period = BILLION * (BILLION - 1)
            first = FAR + (5 - FAR) % period
            self.assert_next(net, "one", "two", 0, (first, "a"))
            self.assert_last(net, "one", "two", first - 1, None)
            self.assert_last(net, "one", "two", first, (first, "a"))
            self.assertIs(ever_meet(net, "one", "two"), True)

    def test_a_box_far_away(self):
        net = Net((Courier("one", Round(BILLION, (3, "a"), (BILLION - 1, "a")), -FARTHEST, FAR),), ("a", "b"))
        self.assert_next(net, "one", "@a", 0, (FAR + 3, "a"))
        self.assert_last(net, "one", "@a", FAR + 2, None)
        self.assert_last(net, "one", "@a", FAR + BILLION - 2, (FAR + 3, "a"))
        self.assert_next(net, "one", "@a", FAR + 4, (FAR + BILLION - 1, "a"))
        self.assert_never(net, "one", "@b")

    def test_short_nets_with_all_ticks_multiplied(self):
        chance = random.Random(12)
        for _ in range(60):
            rows = some_rows(chance, 3)
            boxes = some_boxes(chance, 2)
            factor = chance.randint(BILLION // 16, BILLION // 8)
            net, long_net = net_of(rows, boxes), net_of(stretched(rows, factor, chance.choice((0, 0, 7))), boxes)
            shift = long_net.courier("a").start % factor
            for one, two in itertools.combinations(net.nodes, 2):
                told = list(meetings(net, one, two, 0, 60))
                found = [(tick * factor + shift, place) for tick, place in told]
                self.assert_all(long_net, one, two, 0, 60 * factor, found)


class Unknown(unittest.TestCase):
    CALLS = (lambda one, two: next_meeting(NET, one, two, 0), lambda one, two: last_meeting(NET, one, two, 0),
             lambda one, two: list(meetings(NET, one, two, 0, 20)), lambda one, two: ever_meet(NET, one, two),
             lambda one, two: next(meetings(NET, one, two, 0, 20)),
             lambda one, two: list(meetings(NET, one, two, 9, 9)))

    def assert_unknown(self, name, one, two):
        for call in self.CALLS:
            with self.subTest(one=one, two=two), self.assertRaises(UnknownNode) as caught:
                call(one, two)
            self.assertIs(type(caught.exception), UnknownNode)
            self.assertEqual(caught.exception.name, name)

    def test_one_of_the_two(self):
        for name in ("carl", "port", "mill", "@mill", "@anna", "@", "ann", "@@port") + NO_NAMES:
            self.assert_unknown(name, name, "anna")
            self.assert_unknown(name, "anna", name)
            self.assert_unknown(name, name, "@port")
            self.assert_unknown(name, "@port", name)

    def test_the_first_of_the_two(self):
        self.assert_unknown("carl", "carl", "dora")
        self.assert_unknown("dora", "dora", "carl")
        self.assert_unknown("@mill", "@mill", "")
        self.assert_unknown("", "", "@mill")

    def test_before_anything_is_yielded(self):
        found = meetings(NET, "anna", "carl", 0, FAR)
        with self.assertRaises(UnknownNode):
            next(found)


class NothingChanges(unittest.TestCase):
    def test_calls_can_be_repeated(self):
        calls = (lambda: next_meeting(NET, "anna", "bert", 8), lambda: last_meeting(NET, "anna", "bert", 8),
                 lambda: list(meetings(NET, "anna", "bert", 8, 90)), lambda: ever_meet(NET, "anna", "bert"))
        first = [call() for call in calls]
        self.assertEqual([call() for call in reversed(calls)], first[::-1])
        self.assertEqual(NET, Net((ANNA, BERT), ("port",)))
        self.assertEqual(ANNA, Courier("anna", Round(6, (0, "mill"), (2, "port")), 1, 0))

    def test_equal_nets_give_equal_answers(self):
        other = Net((ANNA, BERT), ("port",))
        for tick in range(30):
            self.assertEqual(next_meeting(NET, "bert", "anna", tick), next_meeting(other, "bert", "anna", tick))


if __name__ == "__main__":
    unittest.main()
