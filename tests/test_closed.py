"""Promises [2], [9] and [11], and the section of the interface on handrounds/nets/closed.py."""

import itertools
import math
import random
import unittest

from handrounds.errors import UnknownNode
from handrounds.nets.closed import closed_set, closed_sets, least_pause
from handrounds.nets.nets import Net
from handrounds.rounds.couriers import Courier
from handrounds.rounds.rounds import Round
from samples import (
    ANNA, BERT, BILLION, FAR, FARTHEST, NET, NO_NAMES, closed, escape, handed, net_of, nodes_of, paused, some_boxes,
    some_rows, stretched)

CARL = Courier("carl", Round(10, (4, "mill")), 2, 0)
NO_NODES = ("dora", "port", "mill", "@mill", "@anna", "@carl", "@", "", "@@port", "Anna", "anna ") + NO_NAMES
# Periods that often have a common divisor, so that many couriers never meet.
EVEN = (4, 8, 12, 16, 24)


def drawn(seed, many, most=5, periods=EVEN):
    """Nets of short rounds, with some nodes each: rows, boxes, nodes."""
    chance = random.Random(seed)
    for _ in range(many):
        # With two places only, more of them meet, or would after a pause.
        rows = [(name, period, tuple((at, {"ford": "mill", "pass": "port"}.get(place, place)) for at, place in stops),
                 start, since) for name, period, stops, start, since in
                some_rows(chance, chance.randint(2, most), 9, periods)]
        boxes = some_boxes(chance, chance.randint(0, 3))
        yield rows, boxes, tuple(chance.choice(nodes_of(rows, boxes)) for _ in range(chance.choice((1, 1, 1, 2, 3))))


class ClosedSet(unittest.TestCase):
    def assert_closed(self, net, nodes, wanted):
        for given in itertools.islice(itertools.permutations(nodes), 6):
            told = closed_set(net, given)
            self.assertEqual(told, tuple(wanted), (net, given))
            self.assertIs(type(told), tuple)

    def test_no_nodes(self):
        for net in (Net((), ()), NET, Net((), ("port",))):
            self.assert_closed(net, (), ())

    def test_by_hand(self):
        # anna is at mill at odd ticks, carl at even ones.
        net = Net((ANNA, CARL), ("port",))
        self.assert_closed(net, ("carl",), ("carl",))
        self.assert_closed(net, ("anna",), ("@port", "anna"))
        self.assert_closed(net, ("@port",), ("@port", "anna"))
        self.assert_closed(net, ("@port", "carl"), ("@port", "anna", "carl"))
        self.assertEqual(closed_set(nodes=("carl",), net=net), ("carl",))

    def test_through_others(self):
        for node in ("@port", "anna", "bert"):
            self.assert_closed(NET, (node,), ("@port", "anna", "bert"))
        self.assert_closed(Net((ANNA, BERT), ()), ("bert",), ("anna", "bert"))
        self.assert_closed(Net((BERT,), ("port",)), ("bert",), ("bert",))

    def test_equal_nodes_and_nodes_of_one_set(self):
        net = Net((ANNA, CARL), ("port", "moor"))
        self.assert_closed(net, ("anna", "anna", "@port"), ("@port", "anna"))
        self.assert_closed(net, ("carl",) * 24, ("carl",))
        self.assert_closed(net, ("carl", "@moor", "carl"), ("@moor", "carl"))
        self.assert_closed(net, ("anna", "@moor", "carl", "@port"), ("@moor", "@port", "anna", "carl"))

    def test_two_boxes_never_meet(self):
        self.assert_closed(Net((), ("mill", "port")), ("@mill",), ("@mill",))
        self.assert_closed(Net((ANNA,), ("mill", "port")), ("@mill",), ("@mill", "@port", "anna"))

    def test_couriers_at_no_place(self):
        net = Net((Courier("idle", Round(3), 0, 0), Courier("lazy", Round(3), 0, 0), ANNA), ("mill",))
        self.assert_closed(net, ("idle",), ("idle",))
        self.assert_closed(net, ("idle", "@mill"), ("@mill", "anna", "idle"))

    def test_when_couriers_go_does_not_matter(self):
        late = (Courier("anna", ANNA.way, 1, FAR), Courier("bert", BERT.way, 0, 3))
        self.assert_closed(Net(late, ("port",)), ("bert",), ("@port", "anna", "bert"))

    def test_long_periods(self):
        for factor, wanted in ((2, False), (5, False), (7, True), (BILLION, False), (BILLION - 1, True)):
            one = Courier("a", Round(BILLION, (0, "x")), FARTHEST, 0)
            two = Courier("b", Round(factor, (0, "x")), -FARTHEST - 1, 0)
            self.assert_closed(Net((one, two), ()), ("a",), ("a", "b") if wanted else ("a",))
        # Both periods are divisible by 10 ** 4 and by no more.
        for rest in range(3):
            one = Courier("a", Round(2 ** 16 * 5 ** 4, (rest, "x")), 0, 0)
            for start, meets in ((0, rest == 0), (10 ** 4 * 77, rest == 0), (10 ** 4 * 77 + 1, rest == 1)):
                two = Courier("b", Round(2 ** 4 * 5 ** 8, (0, "x")), start, 0)
                self.assert_closed(Net((one, two), ()), ("b",), ("a", "b") if meets else ("b",))

    def test_by_handing_over_tick_by_tick(self):
        for periods in (EVEN, (1, 2, 3, 4, 6)):
            for rows, boxes, nodes in drawn(61, 60, 5, periods):
                for tick in (0, 17):
                    wanted = sorted(handed(rows, boxes, [(node, tick) for node in nodes]))
                    self.assert_closed(net_of(rows, boxes), nodes, wanted)

    def test_unknown_nodes(self):
        for name in NO_NODES:
            for nodes in ((name,), ("anna", name), ("anna", name, "emil"), (name, "emil", "anna")):
                for call in (closed_set, least_pause):
                    with self.subTest(nodes=nodes), self.assertRaises(UnknownNode) as caught:
                        call(Net((ANNA, CARL), ("port",)), nodes)
                    self.assertIs(type(caught.exception), UnknownNode)
                    self.assertEqual(caught.exception.name, name)


class ClosedSets(unittest.TestCase):
    def test_by_hand(self):
        self.assertEqual(closed_sets(Net((), ())), ())
        self.assertEqual(closed_sets(NET), (("@port", "anna", "bert"),))
        self.assertEqual(closed_sets(net=Net((ANNA, CARL), ("port",))), (("@port", "anna"), ("carl",)))
        self.assertEqual(closed_sets(Net((), ("port", "mill"))), (("@mill",), ("@port",)))
        self.assertEqual(closed_sets(Net((CARL, ANNA), ("port", "moor", "ford"))),
                         (("@ford",), ("@moor",), ("@port", "anna"), ("carl",)))

    def test_each_node_is_in_exactly_one(self):
        for periods in (EVEN, (1, 2, 3, 4, 6)):
            for rows, boxes, _ in drawn(62, 60, 8, periods):
                net = net_of(rows, boxes)
                told = closed_sets(net)
                self.assertEqual((type(told), {type(one) for one in told}), (tuple, {tuple}))
                self.assertEqual(tuple(sorted(node for one in told for node in one)), net.nodes)
                self.assertEqual(told, tuple(sorted({closed(rows, boxes, (node,)) for node in net.nodes})))
                for one in told:
                    self.assertEqual({closed_set(net, (node,)) for node in one}, {one})

    def test_the_order_does_not_matter(self):
        for rows, boxes, nodes in drawn(63, 30):
            one, two = net_of(rows, boxes), net_of(rows[::-1], boxes[::-1])
            self.assertEqual(closed_sets(one), closed_sets(two))
            self.assertEqual(closed_set(one, nodes), closed_set(two, nodes[::-1]))
            self.assertEqual(least_pause(one, nodes), least_pause(two, nodes[::-1]))

    def test_long_periods(self):
        halves = []
        for half in range(BILLION // 2 - 1, 0, -2):
            if len(halves) < 12 and all(math.gcd(half, other) == 1 for other in halves):
                halves.append(half)
            if len(halves) == 12:
                break
        # All periods have only the divisor 2 in common, so the ones at even ticks never meet those at odd ones.
        net = Net(tuple(Courier("abcdefghijkl"[number], Round(2 * half, (0, "x")), number, 0)
                        for number, half in enumerate(halves)), ())
        self.assertEqual(closed_sets(net), (tuple("acegik"), tuple("bdfhjl")))
        self.assertEqual(least_pause(net, ("c",)), (1, "b"))
        self.assertEqual(least_pause(net, ("d",)), (1, "a"))


class LeastPause(unittest.TestCase):
    def assert_least(self, couriers, boxes, nodes, wanted):
        for given in (nodes, nodes[::-1], nodes + nodes):
            told = least_pause(Net(couriers, boxes), given)
            self.assertEqual(told, wanted, (couriers, boxes, given))

    def test_the_example_of_the_document(self):
        self.assert_least((ANNA, CARL), ("port",), ("@port",), (1, "anna"))
        self.assertEqual(least_pause(nodes=("@port",), net=Net((CARL, ANNA), ("port",))), (1, "anna"))

    def test_the_least_name_at_equal_ticks(self):
        # Whoever of two pauses, the other is met.
        one, two = (Courier(name, Round(4, (at, "x")), 0, 0) for name, at in (("b", 0), ("a", 2)))
        for nodes in (("a",), ("b",)):
            self.assert_least((one, two), (), nodes, (2, "a"))

    def test_the_least_number_of_ticks_ahead_of_the_name(self):
        one, two = (Courier(name, Round(4, (at, "x")), 0, 0) for name, at in (("a", 0), ("b", 3)))
        for nodes in (("a",), ("b",)):
            self.assert_least((one, two), (), nodes, (1, "b"))

    def test_a_courier_outside(self):
        late = Courier("late", Round(12, (4, "x"), (5, "y")), 0, 7)
        for start, wanted in ((0, None), (1, (1, "late")), (2, (2, "in")), (3, (1, "in"))):
            inside = Courier("in", Round(4, (0, "x")), start, 0)
            self.assert_least((late, inside), ("z",), ("in",), wanted)
            self.assert_least((late, inside), ("z",), ("late",), wanted)

    def test_a_courier_of_the_set_must_not_lose_the_nodes(self):
        first = Courier("first", Round(4, (0, "mill")), 0, 0)
        out = Courier("out", Round(4, (3, "port")), 0, 0)
        # If middle pauses for 1 tick, it meets out, but first no more.
        middle = Courier("middle", Round(4, (0, "mill"), (2, "port")), 0, 0)
        self.assert_least((first, middle, out), (), ("first",), (3, "out"))
        self.assert_least((first, middle, out), (), ("middle",), (1, "middle"))
        self.assert_least((first, middle, out), (), ("first", "middle"), (1, "middle"))
        self.assert_least((first, middle, out), (), ("out",), (1, "middle"))
        # The box at mill has it from first, and middle is always there again.
        self.assert_least((first, middle, out), ("mill",), ("first",), (1, "middle"))
        self.assert_least((first, middle, out), ("mill",), ("@mill",), (1, "middle"))
        # With one stop more, it meets both.
        middle = Courier("middle", Round(4, (0, "mill"), (2, "port"), (3, "mill")), 0, 0)
        self.assert_least((first, middle, out), (), ("first",), (1, "middle"))

    def test_both_at_once_by_remainders(self):
        # To meet first, middle may pause for 0 or 3 ticks modulo 4; to meet out, for its lead modulo 9.
        first = Courier("first", Round(4, (2, "mill")), 0, 0)
        middle = Courier("middle", Round(36, (2, "mill"), (3, "mill"), (5, "port")), 0, 0)
        for lead, wanted in ((0, None), (1, (8, "out")), (2, (7, "out")), (3, (3, "middle")), (4, (4, "middle")),
                             (5, (4, "out")), (6, (3, "out")), (7, (2, "out")), (8, (1, "out"))):
            out = Courier("out", Round(9, ((5 + lead) % 9, "port")), 0, 0)
            self.assert_least((first, middle, out), (), ("first",), wanted)
            # If only out has to be met, every pause by the lead will do.
            alone = None if wanted is None else min((lead, "middle"), (9 - lead, "out"))
            self.assert_least((first, middle, out), (), ("out",), alone)
            self.assert_least((first, middle, out), (), ("middle",), alone)

    def test_a_pause_that_only_loses_nodes_opens_nothing(self):
        one, two = (Courier(name, Round(4, (0, "x")), 0, 0) for name in "ab")
        self.assert_least((one, two), (), ("a",), None)
        idle = Courier("idle", Round(4, (0, "y")), 0, 0)
        self.assert_least((one, two, idle), ("x",), ("@x",), None)

    def test_nothing_to_open(self):
        self.assert_least((), (), (), None)
        self.assert_least((ANNA, BERT, CARL), ("port",), (), None)
        self.assert_least((), ("port", "mill"), ("@port",), None)
        self.assert_least((ANNA, BERT), ("port",), ("bert",), None)
        self.assert_least((ANNA, CARL), ("port",), ("@port", "carl"), None)
        self.assert_least((ANNA, CARL), ("port",), ("anna", "carl"), None)

    def test_no_place_in_common(self):
        self.assert_least((Courier("dora", Round(6, (0, "ford")), 0, 0), ANNA), ("port",), ("@port",), None)
        self.assert_least((Courier("idle", Round(6), 0, 0), ANNA), ("port", "moor"), ("anna",), None)
        self.assert_least((Courier("idle", Round(6), 0, 0), ANNA), ("port", "moor"), ("idle", "@moor"), None)

    def test_by_trying(self):
        seen = {}
        for rows, boxes, nodes in drawn(64, 220):
            wanted = escape(rows, boxes, nodes)
            kind = None if wanted is None else (wanted[0] > 1, wanted[1] in closed(rows, boxes, nodes))
            seen[kind] = seen.get(kind, 0) + 1
            self.assertEqual(least_pause(net_of(rows, boxes), nodes), wanted, (rows, boxes, nodes))
        self.assertEqual(len(seen), 5)
        self.assertGreater(min(seen.values()), 3)

    def test_by_trying_with_a_courier_in_the_middle(self):
        chance = random.Random(65)
        seen = 0
        for _ in range(150):
            rows = [("first", chance.choice((4, 6)), ((chance.randint(0, 3), "mill"),), 0, 0),
                    ("out", chance.choice((8, 9, 12)), ((chance.randint(0, 7), "port"),), 0, 0),
                    ("middle", 72, tuple((at, chance.choice(("mill", "port")))
                                         for at in sorted(chance.sample(range(72), 5))), 0, 0)]
            wanted = escape(rows, [], ("first",))
            seen += wanted is not None and wanted[1] == "middle" and "middle" in closed(rows, [], ("first",))
            self.assertEqual(least_pause(net_of(rows, []), ("first",)), wanted, rows)
        self.assertGreater(seen, 10)

    def test_what_it_tells_opens_the_set(self):
        for rows, boxes, nodes in drawn(66, 60, 7, (12, 24, 36, 60)):
            told = least_pause(net_of(rows, boxes), nodes)
            inside = closed_set(net_of(rows, boxes), nodes)
            if told is None:
                continue
            for ticks, opened in ((told[0], True), (told[0] - 1, False)):
                after = closed_set(net_of(paused(rows, told[1], 5, ticks), boxes), nodes)
                self.assertIs(any(node not in inside for node in after), opened)

    def test_short_nets_with_all_ticks_multiplied(self):
        for rows, boxes, nodes in drawn(67, 60, 4, (4, 6, 12)):
            wanted = escape(rows, boxes, nodes)
            if wanted is None or wanted[0] * 7654321 > BILLION:
                continue
            net = net_of(stretched(rows, 7654321, 99), boxes)
            self.assertEqual(least_pause(net, nodes), (wanted[0] * 7654321, wanted[1]), (rows, boxes, nodes))

    def test_long_periods_by_remainders(self):
        # The common divisors of the periods are 2 ** 12 and 5 ** 7; the leads of out are 100 and 2 ** 13.
        first = Courier("first", Round(2 ** 12 * 7, (0, "mill")), 0, 0)
        out = Courier("out", Round(5 ** 7 * 3, (60000, "port")), 0, 0)
        middle = Courier("middle", Round(2 ** 12 * 5 ** 7, (0, "mill"), (60000 - 2 ** 13, "port"), (59900, "port")), 0, 0)
        self.assert_least((first, middle, out), (), ("first",), (2 ** 13, "middle"))
        self.assert_least((first, middle, out), (), ("middle",), (100, "middle"))
        self.assert_least((first, middle, out), (), ("first", "middle"), (100, "middle"))
        self.assert_least((first, middle, out), (), ("out",), (100, "middle"))
        self.assert_least((first, middle, out), ("mill",), ("@mill",), (100, "middle"))

    def test_a_full_net_with_eight_stops_each(self):
        chance = random.Random(68)
        for base in (720720, 2 ** 29, 10 ** 9, 367567200):
            couriers = tuple(Courier(name, Round(base, *((at, "hub") for at in sorted(chance.sample(range(base), 8)))),
                                     chance.randint(0, base), 0) for name in "abcdefghijkl")
            net = Net(couriers, tuple("abcdefghijkl"))
            for nodes in (("a",), ("c", "d", "l"), tuple("abcdefghijk")):
                inside = closed_set(net, nodes)
                ticks, name = least_pause(net, nodes)
                opened = closed_set(Net(tuple(one.paused(0, ticks) if one.name == name else one for one in couriers),
                                        net.boxes), nodes)
                self.assertFalse(set(opened) <= set(inside))
                self.assertLessEqual(ticks, base)

    def test_no_pause_below_it_opens(self):
        net = Net((Courier("a", Round(BILLION, (0, "x")), 0, 0), Courier("b", Round(BILLION, (1, "x")), 0, 0),
                   Courier("c", Round(BILLION, (5, "y")), 0, 0)), ("y",))
        self.assertEqual(least_pause(net, ("a",)), (1, "a"))
        self.assertEqual(least_pause(net, ("b",)), (1, "a"))
        self.assertIsNone(least_pause(net, ("c",)))
        self.assertIsNone(least_pause(net, ("@y",)))


class NothingChanges(unittest.TestCase):
    def test_calls_can_be_repeated(self):
        net, other = Net((ANNA, CARL), ("port",)), Net((ANNA, CARL, BERT), ("port",))
        calls = (lambda: closed_set(net, ("anna",)), lambda: closed_sets(net), lambda: least_pause(net, ("@port",)),
                 lambda: closed_set(other, ("anna",)), lambda: closed_sets(other), lambda: least_pause(other, ("anna",)))
        first = [call() for call in calls]
        self.assertEqual([call() for call in reversed(calls)], first[::-1])
        self.assertEqual(net, Net((CARL, ANNA), ("port",)))


if __name__ == "__main__":
    unittest.main()
