"""Promises [2] and [12], and `difference` and `Difference` of handrounds/change/changes.py."""

import random
import unittest

from handrounds.change.changes import Change, Close, Difference, Join, Leave, Open, Pause, difference
from handrounds.errors import BadNet, UnknownNode
from handrounds.nets.nets import Net
from handrounds.rounds.couriers import Courier
from handrounds.rounds.rounds import Round
from samples import (
    ANNA, BERT, BILLION, FAR, NET, NO_NAMES, PLACES, handed, made, net_of, nodes_of, some_boxes, some_rows,
    some_starts, stretched)

STARTS = (("bert", 8),)
PARTS = ("earlier", "later", "lost", "gained")
LATE = ("late", 4, ((1, "mill"), (2, "ford")), 3, 5)
LATECOMER = Courier("late", Round(4, (1, "mill"), (2, "ford")), 3, 5)


def some_change(chance, rows, boxes, tick):
    """A drawn change of any kind, and the rows and the boxes after it."""
    kinds = ["pause", "leave"] * bool(rows) + ["join", "open"] + ["close"] * bool(boxes)
    kind = chance.choice(kinds)
    free = [place for place in PLACES if place not in boxes]
    what = {"pause": [row[0] for row in rows], "leave": [row[0] for row in rows], "join": [LATE], "open": free,
            "close": boxes}[kind]
    return made(rows, boxes, tick, kind, chance.choice(what), chance.randint(1, 9))


def wanted_parts(rows, boxes, after_rows, after_boxes, tick, starts):
    """The four tuples, by handing over tick by tick before and after the change."""
    told = []
    for these, those in ((rows, boxes), (after_rows, after_boxes)):
        told.append(handed(these, those, [(node, max(since, tick)) for node, since in starts
                                          if node in nodes_of(these, those)]))
    parts = {part: [] for part in PARTS}
    for node in sorted(set(told[0]) | set(told[1])):
        before, after = told[0].get(node), told[1].get(node)
        if before is None or after is None:
            parts["gained" if before is None else "lost"].append((node, before, after))
        elif before != after:
            parts["earlier" if after < before else "later"].append((node, before, after))
    return {part: tuple(found) for part, found in parts.items()}


class DifferenceCase(unittest.TestCase):
    def assert_difference(self, net, change, tick, starts, **parts):
        told = difference(net, change, tick, starts)
        self.assertIs(type(told), Difference)
        for part in PARTS:
            self.assertIs(type(getattr(told, part)), tuple)
            self.assertEqual(getattr(told, part), parts.get(part, ()), (part, net, change.told(), tick, starts))
        self.assertEqual(set(vars(told)), set(PARTS))
        self.assertIs(told.is_nothing, not any(parts.values()))


class ByHand(DifferenceCase):
    """By hand: anna is at mill at 1, 7, 13, 19 .. and at port at 3, 9, 15 ..; bert is at mill at 3, 7, 11, 15, 19 .."""

    def test_the_examples_of_the_document(self):
        self.assert_difference(NET, Pause("anna", 2), 8, STARTS, earlier=(("@port", 21, 17), ("anna", 19, 15)))
        self.assert_difference(NET, Leave("anna"), 8, STARTS, lost=(("@port", 21, None), ("anna", 19, None)))
        told = difference(starts=STARTS, tick=8, change=Pause("anna", 2), net=NET)
        self.assertEqual(told.earlier, (("@port", 21, 17), ("anna", 19, 15)))

    def test_later(self):
        # Paused at 8 for 6 ticks, anna is at port at 15 for the first time, at mill at 19.
        self.assert_difference(NET, Pause("anna", 6), 8, (("anna", 8),), later=(("@port", 9, 15),))
        self.assert_difference(NET, Pause("anna", 12), 8, STARTS, later=(("@port", 21, 33), ("anna", 19, 31)))

    def test_earlier_and_later_at_once(self):
        # Paused at 8 for 2 ticks, anna is at port at 11, 17 .., at mill at 15, 21 ..
        self.assert_difference(NET, Pause("anna", 2), 8, (("anna", 8),),
                               earlier=(("bert", 19, 15),), later=(("@port", 9, 11),))

    def test_gained_and_lost_at_once(self):
        # After a pause for 1 tick, anna is at mill at even ticks only.
        carl = Courier("carl", Round(4, (0, "mill")), 0, 0)
        net = Net((ANNA, BERT, carl), ("port",))
        self.assert_difference(net, Pause("anna", 1), 8, (("anna", 8),), later=(("@port", 9, 10),),
                               lost=(("bert", 19, None),), gained=(("carl", None, 20),))

    def test_nothing(self):
        self.assert_difference(NET, Change(), 8, STARTS)
        self.assert_difference(NET, Open("moor"), 8, STARTS)
        self.assert_difference(NET, Pause("anna", 12), 0, (("@port", 70), ("bert", 70)))
        self.assert_difference(Net((), ("port",)), Open("mill"), 8, (("@port", 3),))

    def test_a_change_behind_all_starts_and_hand_overs(self):
        # At 30, everybody has it anew: before the change is as if the starts were at 30, too.
        self.assert_difference(NET, Pause("bert", 4), 30, STARTS, later=(("@port", 33, 45), ("anna", 31, 43)))
        self.assert_difference(NET, Leave("bert"), 30, (("anna", 0),), lost=(("bert", 31, None),))

    def test_starts_before_at_and_after_the_tick_of_the_change(self):
        for tick in (0, 5, 7, 8):
            self.assert_difference(NET, Leave("anna"), 8, (("bert", tick),),
                                   lost=(("@port", 21, None), ("anna", 19, None)))
        for tick in (9, 19):
            self.assert_difference(NET, Leave("anna"), 8, (("bert", tick),),
                                   lost=(("@port", 21, None), ("anna", 19, None)))
        self.assert_difference(NET, Leave("anna"), 8, (("bert", 20),), lost=(("@port", 33, None), ("anna", 31, None)))

    def test_at_the_tick_of_a_meeting(self):
        # The change is made before anybody meets.
        self.assert_difference(NET, Leave("anna"), 19, STARTS, lost=(("@port", 21, None), ("anna", 19, None)))
        self.assert_difference(NET, Leave("anna"), 20, STARTS, lost=(("@port", 33, None), ("anna", 31, None)))
        self.assert_difference(NET, Open("mill"), 11, STARTS, gained=(("@mill", None, 11),),
                               earlier=(("@port", 21, 15), ("anna", 19, 13)))
        self.assert_difference(NET, Open("mill"), 12, STARTS, gained=(("@mill", None, 15),))

    def test_the_node_of_a_start_leaves(self):
        self.assert_difference(NET, Leave("bert"), 8, STARTS,
                               lost=(("@port", 21, None), ("anna", 19, None), ("bert", 8, None)))
        self.assert_difference(NET, Leave("bert"), 8, (("bert", 8), ("@port", 10)),
                               lost=(("bert", 8, None),))
        self.assert_difference(NET, Leave("bert"), 8, (("bert", 0),),
                               lost=(("@port", 21, None), ("anna", 19, None), ("bert", 8, None)))

    def test_the_node_of_a_start_closes(self):
        self.assert_difference(NET, Close("port"), 8, (("@port", 0),),
                               lost=(("@port", 8, None), ("anna", 9, None), ("bert", 19, None)))
        self.assert_difference(NET, Close("port"), 8, (("@port", 0), ("bert", 9)),
                               later=(("anna", 9, 19),), lost=(("@port", 8, None),))

    def test_the_node_of_a_start_joins(self):
        # From 8 on, the newcomer is at mill at 8, 12, 16 .. and never meets bert; it meets nobody here.
        self.assert_difference(NET, Join(LATECOMER), 8, (("late", 0),), gained=(("late", None, 8),))
        self.assert_difference(NET, Join(LATECOMER), 8, (("late", 50),), gained=(("late", None, 50),))
        net = Net((ANNA, BERT), ("port", "ford"))
        self.assert_difference(net, Join(LATECOMER), 8, (("late", 0), ("bert", 8)),
                               gained=(("@ford", None, 9), ("late", None, 8)))
        mill = Courier("late", Round(6, (0, "mill")), 1, 0)
        self.assert_difference(NET, Join(mill), 8, (("late", 0),),
                               gained=(("@port", None, 15), ("anna", None, 13), ("bert", None, 19), ("late", None, 8)))
        self.assert_difference(NET, Join(mill), 8, (("bert", 0), ("late", 0)),
                               earlier=(("@port", 21, 15), ("anna", 19, 13)), gained=(("late", None, 8),))

    def test_the_node_of_a_start_opens(self):
        self.assert_difference(NET, Open("mill"), 8, (("@mill", 5),),
                               gained=(("@mill", None, 8), ("@port", None, 15), ("anna", None, 13), ("bert", None, 11)))
        self.assert_difference(NET, Open("mill"), 8, (("@mill", 5), ("bert", 30)), gained=(("@mill", None, 8),),
                               earlier=(("@port", 33, 15), ("anna", 31, 13), ("bert", 30, 11)))

    def test_a_courier_that_joins_without_a_start(self):
        late = Courier("late", Round(4, (3, "mill")), 0, 0)
        self.assert_difference(NET, Join(late), 8, STARTS, gained=(("late", None, 11),))
        self.assert_difference(NET, Join(Courier("late", Round(4, (3, "mill")), 0, 60)), 8, STARTS,
                               gained=(("late", None, 63),))

    def test_far_ticks_and_long_periods(self):
        net = Net((Courier("a", Round(BILLION, (0, "x"), (9, "y")), 0, 0), Courier("b", Round(BILLION, (5, "x")), 0, 0)),
                  ("y",))
        for tick in (0, FAR):
            self.assert_difference(net, Pause("a", 5), tick, (("a", 0),), gained=(("b", None, tick + 5),),
                                   later=(("@y", tick + 9, tick + 14),))
            self.assert_difference(net, Pause("a", BILLION), tick, (("a", 0),),
                                   later=(("@y", tick + 9, tick + BILLION + 9),))
            self.assert_difference(net, Pause("a", BILLION - 1), tick, (("a", 0),),
                                   later=(("@y", tick + 9, tick + BILLION + 8),))
            self.assert_difference(net, Pause("b", BILLION - 5), tick, (("@y", 0),),
                                   gained=(("b", None, tick + BILLION),))

class Drawn(DifferenceCase):
    def test_tick_by_tick(self):
        chance = random.Random(71)
        seen = {part: 0 for part in PARTS + ("nothing",)}
        for _ in range(250):
            rows, boxes = some_rows(chance, chance.randint(0, 4)), some_boxes(chance, chance.randint(0, 3))
            tick = chance.randint(0, 25)
            change, after_rows, after_boxes = some_change(chance, rows, boxes, tick)
            nodes = sorted(set(nodes_of(rows, boxes)) | set(nodes_of(after_rows, after_boxes)))
            if not nodes:
                continue
            starts = some_starts(chance, nodes, chance.randint(1, 3))
            parts = wanted_parts(rows, boxes, after_rows, after_boxes, tick, starts)
            self.assert_difference(net_of(rows, boxes), change, tick, starts, **parts)
            for part in PARTS:
                seen[part] += bool(parts[part])
            seen["nothing"] += not any(parts.values())
        self.assertGreater(min(seen.values()), 5)

    def test_all_ticks_multiplied(self):
        chance = random.Random(72)
        for _ in range(60):
            rows, boxes = some_rows(chance, 4), some_boxes(chance, 2)
            factor, tick, ticks = chance.randint(10 ** 7, 10 ** 8), chance.randint(0, 25), chance.randint(1, 9)
            change, after_rows, after_boxes = made(rows, boxes, tick, "pause", chance.choice(rows)[0], ticks)
            starts = some_starts(chance, nodes_of(rows, boxes), 2)
            parts = wanted_parts(rows, boxes, after_rows, after_boxes, tick, starts)
            self.assert_difference(
                net_of(stretched(rows, factor), boxes), Pause(change.name, ticks * factor), tick * factor,
                tuple((node, since * factor) for node, since in starts),
                **{part: tuple((node, *(since if since is None else since * factor for since in ticks))
                               for node, *ticks in told) for part, told in parts.items()})


class Wrong(unittest.TestCase):
    def assert_raises(self, kind, name, change, starts, net=NET):
        with self.subTest(change=change.told(), starts=starts), self.assertRaises(kind) as caught:
            difference(net, change, 8, starts)
        self.assertIs(type(caught.exception), kind)
        self.assertEqual(caught.exception.name, name)

    def test_a_start_that_is_in_neither_net(self):
        for name in ("carl", "port", "mill", "@moor", "@anna", "@", "@@port") + NO_NAMES:
            for change in (Change(), Pause("anna", 2), Leave("bert"), Join(LATECOMER), Open("ford"), Close("port")):
                self.assert_raises(UnknownNode, name, change, ((name, 0),))
                self.assert_raises(UnknownNode, name, change, (("anna", 0), (name, 9), ("", 0), ("dora", 0)))

    def test_a_start_that_is_in_one_of_them_is_right(self):
        for change, node in ((Leave("bert"), "bert"), (Join(LATECOMER), "late"), (Open("mill"), "@mill"),
                             (Close("port"), "@port")):
            self.assert_raises(UnknownNode, "dora", change, ((node, 0), ("dora", 0), ("emil", 0)))
            self.assertIs(difference(NET, change, 8, ((node, 0),)).is_nothing, False)

    def test_the_errors_of_the_change_come_first(self):
        for starts in (STARTS, (("dora", 0),), (("", 0), ("late", 5))):
            for change, kind, name in (
                    (Pause("carl", 2), UnknownNode, "carl"), (Leave("@port"), UnknownNode, "@port"),
                    (Join(ANNA), BadNet, "anna"), (Open("port"), BadNet, "port"), (Open("no name"), BadNet, "no name"),
                    (Close("mill"), UnknownNode, "@mill")):
                self.assert_raises(kind, name, change, starts)


class NothingChanges(unittest.TestCase):
    def test_calls_can_be_repeated(self):
        def told(*args):
            found = difference(NET, *args)
            return [getattr(found, part) for part in PARTS + ("is_nothing",)]

        calls = (lambda: told(Pause("anna", 2), 8, STARTS), lambda: told(Leave("anna"), 8, STARTS),
                 lambda: told(Open("mill"), 8, (("@mill", 3),)), lambda: told(Change(), 8, STARTS))
        first = [call() for call in calls]
        self.assertEqual([call() for call in reversed(calls)], first[::-1])
        self.assertEqual((NET, STARTS), (Net((BERT, ANNA), ("port",)), (("bert", 8),)))


if __name__ == "__main__":
    unittest.main()
