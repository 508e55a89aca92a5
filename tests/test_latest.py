"""Promises [2], [6] and [8], and the section of the interface on handrounds/nets/latest.py."""

import random
import unittest

from handrounds.errors import NotInTime, UnknownNode
from handrounds.nets.earliest import delivery
from handrounds.nets.latest import latest_start, needed_hands
from handrounds.nets.nets import Net
from handrounds.rounds.couriers import Courier
from handrounds.rounds.rounds import Round
from samples import (
    ANNA, BERT, BILLION, EIGHT, FAR, FARTHEST, NET, NO_NAMES, PLACES, delivered, net_of, nodes_of, some_boxes,
    some_rows, some_starts, stretched)

# Without the box at port.
BARE = Net((ANNA, BERT), ())
NO_NODES = ("carl", "port", "mill", "@mill", "@anna", "@bert", "@", "", "@@port", "Anna", "anna ") + NO_NAMES


def drawn(seed, many):
    """Nets of short rounds: rows and boxes."""
    chance = random.Random(seed)
    for _ in range(many):
        yield some_rows(chance, chance.randint(1, 5)), some_boxes(chance, chance.randint(0, 4))


def by_trying(rows, boxes, node, place, deadline):
    """The latest start, by handing over tick by tick for every tick from 0 to the deadline."""
    good = [tick for tick in range(deadline + 1)
            if delivered(rows, boxes, [(node, tick)], place, deadline) is not None]
    return max(good, default=None)


class LatestStart(unittest.TestCase):
    """By hand: anna is at mill at 1, 7, 13, 19 .. and at port at 3, 9, 15 ..; bert is at mill at 3, 7, 11, 15, 19 .."""

    def assert_latest(self, net, node, place, deadline, wanted):
        self.assertEqual(latest_start(net, node, place, deadline), wanted, (net, node, place, deadline))

    def test_the_example_of_the_document(self):
        self.assert_latest(BARE, "bert", "port", 30, 19)
        self.assert_latest(BARE, "anna", "port", 30, 27)
        self.assertEqual(latest_start(deadline=30, place="port", node="bert", net=BARE), 19)

    def test_a_courier_that_is_at_the_place_itself(self):
        for deadline, wanted in ((0, None), (2, None), (3, 3), (4, 3), (8, 3), (9, 9), (10, 9), (15, 15)):
            for net in (NET, BARE, Net((ANNA,), ())):
                self.assert_latest(net, "anna", "port", deadline, wanted)
        for deadline, wanted in ((2, None), (3, 3), (6, 3), (7, 7), (11, 11), (12, 11)):
            self.assert_latest(NET, "bert", "mill", deadline, wanted)

    def test_a_courier_that_hands_over(self):
        for deadline, wanted in ((8, None), (9, 7), (20, 7), (21, 19), (32, 19), (33, 31)):
            self.assert_latest(BARE, "bert", "port", deadline, wanted)
            self.assert_latest(NET, "bert", "port", deadline, wanted)

    def test_a_box_at_the_place(self):
        for deadline in (0, 1, 2, 3, 9, BILLION, FAR):
            self.assert_latest(NET, "@port", "port", deadline, deadline)
            self.assert_latest(Net((), ("moor", "port")), "@moor", "moor", deadline, deadline)

    def test_a_box_at_another_place(self):
        for deadline, wanted in ((3, None), (6, None), (7, 3), (12, 3), (13, 9), (18, 9), (19, 15)):
            self.assert_latest(Net((ANNA,), ("port",)), "@port", "mill", deadline, wanted)
        for deadline in (0, 50, FAR):
            self.assert_latest(Net((ANNA,), ("port", "moor")), "@moor", "port", deadline, None)

    def test_handed_over_through_a_box(self):
        net = Net((Courier("a", Round(10, (0, "x"), (4, "y")), 0, 0), Courier("b", Round(10, (7, "y"), (9, "z")), 0, 0)),
                  ("y",))
        for deadline, wanted in ((8, None), (9, 4), (18, 4), (19, 14)):
            self.assert_latest(net, "a", "z", deadline, wanted)
        for deadline, wanted in ((8, None), (9, 7), (18, 7), (19, 17)):
            self.assert_latest(net, "@y", "z", deadline, wanted)

    def test_handed_on_at_the_very_tick(self):
        net = Net(tuple(Courier(name, Round(10, (number, "x"), (number + 1, "y")), 0, 0)
                        for number, name in ((1, "a"), (2, "b"))) + (Courier("c", Round(10, (2, "y")), 0, 0),), ("y",))
        for deadline, wanted in ((1, None), (2, 2), (11, 2), (12, 12)):
            self.assert_latest(net, "a", "y", deadline, wanted)
            self.assert_latest(net, "c", "y", deadline, wanted)
        for deadline, wanted in ((1, None), (2, None), (3, 3), (12, 3), (13, 13)):
            self.assert_latest(net, "b", "y", deadline, wanted)

    def test_the_tick_zero(self):
        net = Net((Courier("a", Round(9, (0, "x")), 0, 0), Courier("b", Round(9, (0, "x"), (5, "y")), 0, 0)), ())
        for node, place in (("a", "x"), ("b", "x")):
            for deadline in (0, 1, 8):
                self.assert_latest(net, node, place, deadline, 0)
        for deadline, wanted in ((4, None), (5, 0), (13, 0), (14, 9)):
            self.assert_latest(net, "a", "y", deadline, wanted)

    def test_before_anybody_goes(self):
        late = (Courier("a", Round(4, (1, "x")), 0, 40), Courier("b", Round(4, (1, "x"), (2, "y")), 0, 80))
        net = Net(late, ("x",))
        for deadline, wanted in ((0, None), (40, None), (41, 41), (44, 41), (45, 45)):
            self.assert_latest(net, "a", "x", deadline, wanted)
        for node, wanted in (("a", 81), ("@x", 81), ("b", 82)):
            for deadline in (0, 41, 81):
                self.assert_latest(net, node, "y", deadline, None)
            self.assert_latest(net, node, "y", 82, wanted)

    def test_never_below_zero(self):
        early = Courier("a", Round(10, (0, "x"), (9, "y")), 0, -50)
        net = Net((early, Courier("b", Round(10, (1, "z"), (9, "y")), 0, -50)), ("x",))
        for node, deadline, wanted in (("a", 0, None), ("b", 0, None), ("b", 1, 1), ("a", 10, None), ("a", 11, 9)):
            self.assert_latest(net, node, "z", deadline, wanted)
        self.assert_latest(net, "@x", "x", -1, None)

    def test_a_place_that_is_no_place_of_the_net(self):
        for place in ("moor", "anna", "bert", "x", "abcdefghijkl"):
            for node in NET.nodes:
                for deadline in (0, 30, FAR):
                    self.assert_latest(NET, node, place, deadline, None)

    def test_a_node_that_is_in_no_chain_to_the_place(self):
        net = Net((ANNA, BERT, Courier("carl", Round(5), 0, 0), Courier("dora", Round(4, (0, "mill")), 0, 0)), ("ford",))
        for node in ("carl", "@ford", "dora"):
            self.assert_latest(net, node, "port", FAR, None)
        self.assert_latest(net, "dora", "mill", 30, 28)
        self.assert_latest(net, "@ford", "ford", 30, 30)

    def test_tick_by_tick(self):
        chance = random.Random(41)
        for rows, boxes in drawn(42, 60):
            net = net_of(rows, boxes)
            for _ in range(4):
                node, place, deadline = chance.choice(net.nodes), chance.choice(PLACES), chance.randint(0, 35)
                self.assert_latest(net, node, place, deadline, by_trying(rows, boxes, node, place, deadline))

    def test_every_deadline(self):
        for rows, boxes in drawn(43, 4):
            net = net_of(rows, boxes)
            for node in net.nodes[:3]:
                for deadline in range(25):
                    self.assert_latest(net, node, "mill", deadline, by_trying(rows, boxes, node, "mill", deadline))

    def test_short_nets_with_all_ticks_multiplied(self):
        chance = random.Random(44)
        for rows, boxes in drawn(45, 60):
            factor = chance.randint(BILLION // 16, BILLION // 8)
            net = net_of(stretched(rows, factor), boxes)
            node, place, deadline = chance.choice(net.nodes), chance.choice(PLACES), chance.randint(0, 30)
            late = deadline * factor + chance.randint(0, factor - 1)
            wanted = by_trying(rows, boxes, node, place, deadline)
            if node == "@" + place:
                self.assert_latest(net, node, place, late, late)
            else:
                self.assert_latest(net, node, place, late, wanted if wanted is None else wanted * factor)

    def test_delivered_by_the_deadline_but_not_one_tick_later(self):
        chance = random.Random(46)
        seen = 0
        for rows, boxes in drawn(47, 100):
            net = net_of([(name, period * BILLION // 12, tuple((at * BILLION // 12, place) for at, place in stops),
                           start * FARTHEST // 20 // BILLION * BILLION // 12, since)
                          for name, period, stops, start, since in rows], boxes)
            node, place = chance.choice(net.nodes), chance.choice(PLACES)
            deadline = FAR - chance.randint(0, BILLION)
            latest = latest_start(net, node, place, deadline)
            if latest is None:
                first = delivery(net, ((node, 0),), place)
                self.assertTrue(first is None or first > deadline)
            else:
                seen += 1
                self.assertLessEqual(delivery(net, ((node, latest),), place), deadline)
                after = delivery(net, ((node, latest + 1),), place)
                self.assertTrue(after is None or after > deadline)
        self.assertGreater(seen, 20)

    def test_a_full_net_of_long_rounds(self):
        rows = [("abcdefghijkl"[number], BILLION - number,
                 tuple((at * 1000 * (number + 1), "same") for at in range(8)), number, 0) for number in range(12)]
        net = net_of(rows, ["same"] + ["only" + "abcdefghijkl"[number] for number in range(11)])
        for node in net.hands:
            self.assert_latest(net, node, "same", FAR, net.courier(node).last_stop(FAR)[0])
        for node in ("@onlya", "@onlyk"):
            self.assert_latest(net, node, "same", FAR, None)

    def test_far_starts_of_rounds(self):
        net = Net((Courier("a", Round(BILLION, (7, "x")), FARTHEST, 0),
                   Courier("b", Round(BILLION, (7, "x"), (9, "y")), -FARTHEST, FAR)), ())
        first = FAR + 7
        for deadline, wanted in ((FAR, None), (first + 1, None), (first + 2, first)):
            self.assert_latest(net, "a", "y", deadline, wanted)

    def test_unknown_nodes(self):
        for name in NO_NODES:
            for net, place, deadline in ((NET, "port", 30), (BARE, "moor", 0), (Net((), ()), "port", FAR)):
                with self.subTest(name=name), self.assertRaises(UnknownNode) as caught:
                    latest_start(net, name, place, deadline)
                self.assertIs(type(caught.exception), UnknownNode)
                self.assertEqual(caught.exception.name, name)


class NeededHands(unittest.TestCase):
    def assert_needed(self, net, starts, place, deadline, wanted):
        told = needed_hands(net, starts, place, deadline)
        self.assertEqual(told, wanted, (net, starts, place, deadline))
        self.assertIs(type(told), tuple)

    def assert_late(self, net, starts, place, deadline):
        with self.subTest(net=net, starts=starts, place=place), self.assertRaises(NotInTime) as caught:
            needed_hands(net, starts, place, deadline)
        self.assertIs(type(caught.exception), NotInTime)

    def test_the_example_of_the_document(self):
        self.assert_needed(BARE, (("bert", 8),), "port", 30, ("anna", "bert"))
        self.assertEqual(needed_hands(deadline=30, place="port", starts=(("bert", 8),), net=BARE), ("anna", "bert"))

    def test_none(self):
        self.assert_needed(NET, (("@port", 5),), "port", 5, ())
        self.assert_needed(BARE, (("anna", 5), ("bert", 5)), "mill", 7, ())
        self.assert_needed(BARE, (("anna", 8), ("bert", 8)), "mill", 13, ())
        self.assert_needed(Net((), ("port",)), (("@port", 5),), "port", FAR, ())

    def test_one(self):
        self.assert_needed(NET, (("@port", 0), ("bert", 0)), "mill", 6, ("bert",))
        self.assert_needed(NET, (("@port", 0),), "mill", 11, ("anna",))
        self.assert_needed(BARE, (("anna", 0), ("bert", 0)), "port", 9, ("anna",))
        self.assert_needed(BARE, (("anna", 8), ("bert", 8)), "mill", 12, ("bert",))

    def test_the_deadline_decides(self):
        couriers = tuple(Courier(name, Round(12, (0, "x"), (at, "y")), 0, 0)
                         for name, at in (("a", 9), ("b", 5), ("c", 5), ("d", 3)))
        net = Net(couriers, ("x",))
        for deadline, wanted in ((14, None), (15, ("d",)), (16, ("d",)), (17, ()), (21, ()), (FAR, ())):
            if wanted is None:
                self.assert_late(net, (("@x", 10),), "y", deadline)
            else:
                self.assert_needed(net, (("@x", 10),), "y", deadline, wanted)

    def test_several_in_a_row(self):
        names = "lkjihgfedcba"
        net = Net(tuple(Courier(name, Round(20, (number, "x" + name), (number + 1, "x" + following)), 0, 0)
                        for number, (name, following) in enumerate(zip(names, names[1:] + "z"))), ())
        starts = (("l", 0),)
        self.assert_late(net, starts, "xz", 11)
        self.assert_needed(net, starts, "xz", 12, tuple(sorted(names)))
        self.assert_needed(net, starts + (("g", 0),), "xz", 12, tuple("abcdefg"))

    def test_without_a_start_that_is_left(self):
        self.assert_needed(BARE, (("anna", 0), ("anna", 50)), "port", 30, ("anna",))
        self.assert_needed(NET, (("bert", 0),) * 24, "mill", 30, ("bert",))
        self.assert_needed(Net((ANNA,), ()), (("anna", 4),), "mill", 7, ("anna",))

    def test_starts_of_a_missing_courier_are_left_out(self):
        # Without anna, nobody gives bert the letter before 20.
        self.assert_needed(BARE, (("anna", 0), ("bert", 20)), "mill", 19, ("anna",))
        self.assert_needed(BARE, (("anna", 0), ("bert", 20)), "mill", 23, ())

    def test_too_late(self):
        for starts, place, first in (((("bert", 8),), "port", 21), ((("bert", 8),), "mill", 11),
                                     ((("anna", 4),), "port", 9), ((("@port", 4),), "mill", 13)):
            net = NET if starts[0][0] == "@port" else BARE
            self.assertEqual(delivery(net, starts, place), first)
            self.assert_late(net, starts, place, first - 1)
            self.assert_late(net, starts, place, 0)
            self.assertIn(starts[0][0], needed_hands(net, starts, place, first) + ("@port",))

    def test_never(self):
        for place in ("moor", "anna", "x"):
            self.assert_late(NET, (("anna", 0), ("bert", 0)), place, FAR)
        self.assert_late(Net((ANNA,), ("moor",)), (("@moor", 0),), "port", FAR)

    def test_tick_by_tick(self):
        chance = random.Random(48)
        seen = {}
        for rows, boxes in drawn(49, 150):
            nodes = nodes_of(rows, boxes)
            starts, place, deadline = some_starts(chance, nodes, 2, 20), chance.choice(PLACES), chance.randint(5, 60)
            net = net_of(rows, boxes)
            if delivered(rows, boxes, starts, place, deadline) is None:
                seen["late"] = seen.get("late", 0) + 1
                self.assert_late(net, starts, place, deadline)
                continue
            needed = []
            for name in sorted(row[0] for row in rows):
                others = [row for row in rows if row[0] != name]
                kept = [start for start in starts if start[0] != name]
                if delivered(others, boxes, kept, place, deadline) is None:
                    needed.append(name)
            seen[len(needed)] = seen.get(len(needed), 0) + 1
            self.assert_needed(net, starts, place, deadline, tuple(needed))
        self.assertGreater(min(seen["late"], seen[0], seen[1], seen[2]), 3)

    def test_long_rounds(self):
        a, b, c = (Courier(name, Round(BILLION, (5, "x"), (9, place)), 0, 0)
                   for name, place in (("a", "x"), ("b", "y"), ("c", "z")))
        net = Net((c, b, a), ())
        self.assert_needed(net, (("a", FAR - BILLION),), "y", FAR, ("a", "b"))
        self.assert_late(net, (("a", FAR - BILLION + 6),), "y", FAR)
        self.assert_needed(net, (("a", FAR - BILLION), ("c", 0)), "y", FAR, ("b",))

    def test_full_nets(self):
        for many in (11, 12):
            net = Net(tuple(Courier(name, Round(60, *EIGHT), 0, 0) for name in "abcdefghijkl"[:many]),
                      tuple("abcdefghijkl"))
            self.assert_needed(net, (("@a", 1),), "h", 81, ())
            self.assert_needed(net, (("e", 1), ("f", 22)), "h", 21, ("e",))
            self.assert_needed(net, (("e", 1), ("f", 21)), "h", 21, ())
            self.assert_late(net, (("@a", 1),), "h", 80)

    def test_unknown_starts(self):
        for place, deadline in (("port", 30), ("moor", 0), ("mill", FAR)):
            for name, starts in (("carl", (("carl", 0),)), ("carl", (("bert", 8), ("carl", 9), ("dora", 0))),
                                 ("@mill", (("@mill", 3), ("carl", 9))), ("", (("anna", 0), ("", FAR)))):
                with self.subTest(name=name), self.assertRaises(UnknownNode) as caught:
                    needed_hands(NET, starts, place, deadline)
                self.assertIs(type(caught.exception), UnknownNode)
                self.assertEqual(caught.exception.name, name)

    def test_unknown_starts_of_all_kinds(self):
        for name in NO_NODES:
            with self.subTest(name=name), self.assertRaises(UnknownNode) as caught:
                needed_hands(NET, (("anna", 0), (name, 0)), "port", 30)
            self.assertEqual(caught.exception.name, name)


class NothingChanges(unittest.TestCase):
    def test_calls_can_be_repeated(self):
        starts = (("bert", 8), ("anna", 50))
        calls = (lambda: latest_start(NET, "bert", "port", 30), lambda: latest_start(BARE, "anna", "mill", 30),
                 lambda: needed_hands(BARE, starts, "port", 30), lambda: needed_hands(NET, starts, "port", 60))
        first = [call() for call in calls]
        self.assertEqual([call() for call in reversed(calls)], first[::-1])
        self.assertEqual((NET, BARE, starts),
                         (Net((BERT, ANNA), ("port",)), Net((BERT, ANNA), ()), (("bert", 8), ("anna", 50))))

    def test_the_order_of_couriers_and_boxes_does_not_matter(self):
        chance = random.Random(50)
        for rows, boxes in drawn(51, 20):
            one, two = net_of(rows, boxes), net_of(rows[::-1], boxes[::-1])
            node, place = chance.choice(one.nodes), chance.choice(PLACES)
            self.assertEqual(latest_start(one, node, place, 40), latest_start(two, node, place, 40))


if __name__ == "__main__":
    unittest.main()
