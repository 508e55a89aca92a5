"""Promises [2] and [6], and `earliest` and `Table` of the interface on handrounds/nets/earliest.py."""

import itertools
import random
import unittest

from handrounds.errors import UnknownNode
from handrounds.nets.earliest import Table, earliest
from handrounds.nets.nets import Net
from handrounds.rounds.couriers import Courier
from handrounds.rounds.rounds import Round
from samples import (
    ANNA, BERT, BILLION, FAR, FARTHEST, NET, NO_NAMES, handed, net_of, nodes_of, some_boxes, some_rows, some_starts,
    stretched)

STARTS = (("bert", 8),)
TOLD = (("@port", 21), ("anna", 19), ("bert", 8))


class EarliestCase(unittest.TestCase):
    def assert_table(self, net, starts, entries):
        told = earliest(net, starts)
        self.assertIs(type(told), Table)
        self.assertEqual(told.entries, tuple(entries), (net, starts))
        self.assertIs(type(told.entries), tuple)
        self.assertEqual(len(told), len([tick for _, tick in entries if tick is not None]))
        self.assertEqual([told.tick_of(node) for node, _ in entries], [tick for _, tick in entries])
        self.assertIs(told.holds(net, starts), True)


class Examples(EarliestCase):
    """By hand: anna is at mill at 1, 7, 13, 19 .. and at port at 3, 9, 15, 21 ..; bert is at mill at 3, 7, 11 .."""

    def test_the_example_of_the_document(self):
        self.assert_table(NET, STARTS, TOLD)

    def test_from_each_node(self):
        self.assert_table(NET, (("anna", 0),), (("@port", 3), ("anna", 0), ("bert", 7)))
        self.assert_table(NET, (("@port", 0),), (("@port", 0), ("anna", 3), ("bert", 7)))
        self.assert_table(NET, (("bert", 0),), (("@port", 9), ("anna", 7), ("bert", 0)))

    def test_at_before_and_behind_the_tick_of_a_meeting(self):
        for tick, got in ((2, 3), (3, 3), (4, 9)):
            self.assert_table(NET, (("@port", tick),), (("@port", tick), ("anna", got), ("bert", 7 if got < 7 else 19)))
        for tick, got in ((6, 7), (7, 7), (8, 19)):
            self.assert_table(NET, (("bert", tick),), (("@port", got + 2), ("anna", got), ("bert", tick)))

    def test_several_starts(self):
        self.assert_table(NET, (("bert", 8), ("@port", 10)), (("@port", 10), ("anna", 15), ("bert", 8)))
        self.assert_table(NET, (("@port", 10), ("bert", 8)), (("@port", 10), ("anna", 15), ("bert", 8)))
        self.assert_table(NET, (("bert", 8), ("anna", 17)), (("@port", 21), ("anna", 17), ("bert", 8)))
        self.assert_table(NET, (("bert", 8), ("anna", 90)), TOLD)

    def test_several_starts_of_one_node(self):
        for starts in itertools.permutations((("bert", 8), ("bert", 40), ("bert", 9))):
            self.assert_table(NET, starts, TOLD)
        self.assert_table(NET, (("anna", 90), ("bert", 8), ("anna", 19), ("bert", 8)), TOLD)

    def test_a_start_at_the_tick_of_a_hand_over(self):
        self.assert_table(NET, (("bert", 8), ("anna", 19), ("@port", 21)), TOLD)

    def test_handed_on_at_the_very_tick(self):
        net = Net(tuple(Courier(name, Round(period, *stops), 0, 0) for name, period, *stops in (
            ("a", 7, (0, "here"), (3, "far")), ("b", 7, (0, "here")), ("c", 7, (0, "here")), ("d", 14, (7, "here")))),
            ("far", "here"))
        self.assert_table(net, (("@far", 1),),
                          (("@far", 1), ("@here", 7), ("a", 3), ("b", 7), ("c", 7), ("d", 7)))
        self.assert_table(net, (("b", 0),),
                          (("@far", 3), ("@here", 0), ("a", 0), ("b", 0), ("c", 0), ("d", 7)))

    def test_a_row_of_hands_at_one_tick_through_boxes(self):
        net = Net(tuple(Courier(name, Round(1, (0, place)), 0, since) for name, place, since in (
            ("a", "here", 4), ("b", "here", 9), ("c", "there", 0))), ("here", "there"))
        self.assert_table(net, (("@here", 2),),
                          (("@here", 2), ("@there", None), ("a", 4), ("b", 9), ("c", None)))

    def test_nodes_that_never_have_it(self):
        net = Net((ANNA, BERT, Courier("carl", Round(5), 0, 0), Courier("dora", Round(4, (0, "mill")), 0, 0),
                   Courier("emil", Round(6, (0, "mill")), 0, 0)), ("port", "moor"))
        self.assert_table(net, STARTS, (("@moor", None), ("@port", 21), ("anna", 19), ("bert", 8),
                                        ("carl", None), ("dora", None), ("emil", None)))
        self.assert_table(net, (("@moor", 3), ("carl", 0)), (("@moor", 3), ("@port", None), ("anna", None),
                                                             ("bert", None), ("carl", 0), ("dora", None),
                                                             ("emil", None)))
        self.assert_table(net, (("emil", 1),), (("@moor", None), ("@port", None), ("anna", None), ("bert", None),
                                                ("carl", None), ("dora", 12), ("emil", 1)))

    def test_before_couriers_go(self):
        net = Net((Courier("a", Round(2, (0, "x")), 0, 20), Courier("b", Round(3, (0, "x")), 0, 40)), ("x",))
        self.assert_table(net, (("a", 0),), (("@x", 20), ("a", 0), ("b", 42)))
        self.assert_table(net, (("b", 0),), (("@x", 42), ("a", 42), ("b", 0)))
        self.assert_table(net, (("@x", 0),), (("@x", 0), ("a", 20), ("b", 42)))
        self.assert_table(net, (("@x", 50), ("b", 3)), (("@x", 42), ("a", 42), ("b", 3)))

    def test_nets_of_one_node(self):
        self.assert_table(Net((ANNA,), ()), (("anna", 5),), (("anna", 5),))
        self.assert_table(Net((), ("port",)), (("@port", 5), ("@port", 3)), (("@port", 3),))

    def test_by_keyword(self):
        self.assertEqual(earliest(starts=STARTS, net=NET).entries, TOLD)


class TickByTick(EarliestCase):
    """Short periods, compared with handing over tick by tick."""

    def compare(self, rows, boxes, starts):
        has = handed(rows, boxes, starts)
        self.assert_table(net_of(rows, boxes), starts, [(node, has.get(node)) for node in nodes_of(rows, boxes)])

    def test_drawn_nets(self):
        chance = random.Random(21)
        for _ in range(150):
            rows, boxes = some_rows(chance, chance.randint(1, 5)), some_boxes(chance, chance.randint(0, 4))
            self.compare(rows, boxes, some_starts(chance, nodes_of(rows, boxes), chance.randint(1, 3)))

    def test_many_starts(self):
        chance = random.Random(22)
        for many in (5, 12, 23, 24):
            for _ in range(6):
                rows, boxes = some_rows(chance, 6), some_boxes(chance, 3)
                self.compare(rows, boxes, some_starts(chance, nodes_of(rows, boxes), many, 60))

    def test_couriers_that_go_late(self):
        chance = random.Random(23)
        for _ in range(25):
            rows, boxes = some_rows(chance, 4, 100), some_boxes(chance, 2)
            self.compare(rows, boxes, some_starts(chance, nodes_of(rows, boxes), 2, 120))

    def test_full_nets(self):
        chance = random.Random(24)
        for _ in range(6):
            rows = some_rows(chance, 12)
            self.compare(rows, some_boxes(chance, 5), some_starts(chance, [row[0] for row in rows], 2))


class AtOnce(EarliestCase):
    """Long periods and far ticks, that no counting would get through."""

    def test_short_nets_with_all_ticks_multiplied(self):
        chance = random.Random(25)
        for _ in range(40):
            rows, boxes = some_rows(chance, 5), some_boxes(chance, 2)
            starts = some_starts(chance, nodes_of(rows, boxes), 2)
            factor = chance.randint(BILLION // 16, BILLION // 8)
            has = handed(rows, boxes, starts)
            self.assert_table(net_of(stretched(rows, factor), boxes),
                              tuple((node, tick * factor) for node, tick in starts),
                              [(node, has[node] * factor if node in has else None) for node in nodes_of(rows, boxes)])

    def test_far_ticks(self):
        net = Net((Courier("a", Round(BILLION, (0, "x")), FARTHEST, 0),
                   Courier("b", Round(BILLION - 1, (0, "x")), -FARTHEST, FAR)), ("x",))
        since = FAR + (-FARTHEST - FAR) % (BILLION - 1)
        for tick in (0, 1, FAR - BILLION):
            first = tick + (FARTHEST - tick) % BILLION
            self.assert_table(net, (("a", tick),), (("@x", first), ("a", tick), ("b", since)))
        self.assert_table(net, (("b", 0),), (("@x", since), ("a", since + (FARTHEST - since) % BILLION), ("b", 0)))

    def test_a_full_net_of_long_rounds(self):
        rows = [("abcdefghijkl"[number], BILLION - number,
                 tuple((at * 1000 * (number + 1), "same") for at in range(8)), number, 0) for number in range(12)]
        net = net_of(rows, ["same"] + ["only" + "abcdefghijkl"[number] for number in range(11)])
        told = earliest(net, (("a", FAR),))
        self.assertEqual((len(told), told.tick_of("a")), (13, FAR))
        box = told.tick_of("@same")
        self.assertIn(box, [FAR + (at * 1000 - FAR) % BILLION for at in range(8)])
        for name in "bcdefghijkl":
            self.assertEqual(net.courier(name).place_at(told.tick_of(name)), "same")
            self.assertEqual(net.courier(name).next_stop(box), (told.tick_of(name), "same"))


class Tables(unittest.TestCase):
    def test_entries(self):
        entries = (("@port", 21), ("anna", None))
        for told in (Table(*entries), Table.of(entries), Table.of(entries=entries), Table().of(entries)):
            self.assertIs(type(told), Table)
            self.assertEqual(vars(told), {"entries": entries})
        self.assertEqual((Table().entries, Table.of(()).entries), ((), ()))

    def test_entries_stay_in_their_order(self):
        entries = (("b", 2), ("a", 1), ("b", 0), ("@z", None))
        self.assertEqual(Table(*entries).entries, entries)

    def test_tick_of(self):
        told = Table(("b", 2), ("a", None), ("b", 0), ("a", 5), ("c", 0), ("@c", FAR))
        self.assertEqual([told.tick_of(node) for node in ("a", "b", "c", "@c")], [None, 2, 0, FAR])
        self.assertEqual(told.tick_of(node="b"), 2)

    def test_tick_of_strings_without_an_entry(self):
        for told in (Table(), Table(*TOLD)):
            for node in ("", "@", "port", "@mill", "carl", "ann", "annab", "@anna") + NO_NAMES:
                self.assertIsNone(told.tick_of(node))

    def test_len(self):
        self.assertEqual([len(Table()), len(Table(*TOLD)), len(Table(("a", None))), len(Table(("a", 0)))], [0, 3, 0, 1])
        self.assertEqual(len(Table(("a", 0), ("b", None), ("a", 0), ("c", 7), ("d", None))), 3)

    def test_equal(self):
        one = Table(*TOLD)
        self.assertIs(one == Table.of(TOLD), True)
        self.assertIs(one != Table.of(TOLD), False)
        self.assertIs(Table() == Table(), True)

    def test_other_entries(self):
        one = Table(*TOLD)
        for entries in ((), TOLD[:2], TOLD[1:], TOLD[::-1], TOLD + TOLD[:1], TOLD + (("carl", None),),
                        (("@port", 22),) + TOLD[1:], (("@pond", 21),) + TOLD[1:], TOLD[:2] + (("bert", None),)):
            self.assertIs(one == Table.of(entries), False)
            self.assertIs(one != Table.of(entries), True)

    def test_other_kinds(self):
        for one in (Table(*TOLD), Table()):
            for other in (TOLD, (), list(TOLD), dict(TOLD), 3, 0, None, True, False, "", NET, ANNA, Table, object()):
                self.assertIs(one == other, False)
                self.assertIs(other == one, False)
                self.assertIs(one != other, True)


class Holds(unittest.TestCase):
    def assert_holds(self, entries, wanted, net=NET, starts=STARTS):
        self.assertIs(Table.of(entries).holds(net, starts), wanted, entries)

    def test_the_right_table(self):
        self.assert_holds(TOLD, True)
        self.assertIs(Table(*TOLD).holds(starts=STARTS, net=NET), True)
        self.assert_holds((("@port", 10), ("anna", 15), ("bert", 8)), True, starts=(("bert", 8), ("@port", 10)))

    def test_a_tick_that_differs(self):
        for index, (node, tick) in enumerate(TOLD):
            for other in (tick - 1, tick + 1, tick + 6, 0, FAR, None):
                self.assert_holds(TOLD[:index] + ((node, other),) + TOLD[index + 1:], False)

    def test_another_order(self):
        for entries in itertools.permutations(TOLD):
            self.assert_holds(entries, entries == TOLD)

    def test_an_entry_more_or_fewer(self):
        for index in range(3):
            self.assert_holds(TOLD[:index] + TOLD[index + 1:], False)
            self.assert_holds(TOLD + TOLD[index:index + 1], False)
        self.assert_holds(TOLD + (("carl", None),), False)
        self.assert_holds((), False)

    def test_another_net_or_other_starts(self):
        self.assert_holds(TOLD, False, starts=(("bert", 7),))
        self.assert_holds(TOLD, False, starts=(("anna", 19),))
        self.assert_holds(TOLD, True, starts=(("bert", 8), ("anna", 19)))
        self.assert_holds(TOLD, False, net=Net((ANNA, BERT), ("port", "moor")))
        self.assert_holds(TOLD, False, net=Net((ANNA, BERT.paused(4, 1)), ("port",)))
        self.assert_holds(TOLD, False, net=Net((ANNA, BERT), ("mill", "port")))


class Unknown(unittest.TestCase):
    CALLS = (lambda starts: earliest(NET, starts), lambda starts: Table(*TOLD).holds(NET, starts),
             lambda starts: Table().holds(NET, starts))

    def assert_unknown(self, name, starts):
        for call in self.CALLS:
            with self.subTest(starts=starts), self.assertRaises(UnknownNode) as caught:
                call(starts)
            self.assertIs(type(caught.exception), UnknownNode)
            self.assertEqual(caught.exception.name, name)

    def test_the_only_start(self):
        for name in ("carl", "port", "mill", "@mill", "@anna", "@", "ann", "annab", "@@port") + NO_NAMES:
            self.assert_unknown(name, ((name, 0),))

    def test_the_first_wrong_start(self):
        self.assert_unknown("carl", (("bert", 8), ("carl", 9), ("dora", 0)))
        self.assert_unknown("dora", (("dora", 9), ("bert", 8), ("carl", 0)))
        self.assert_unknown("@mill", STARTS * 23 + (("@mill", 5),))
        self.assert_unknown("", (("anna", 0), ("", FAR), ("@mill", 5)))


class NothingChanges(unittest.TestCase):
    def test_calls_can_be_repeated(self):
        told = Table(*TOLD)
        calls = (lambda: earliest(NET, STARTS).entries, lambda: told.holds(NET, STARTS), lambda: told.tick_of("anna"),
                 lambda: len(told), lambda: told.entries, lambda: earliest(NET, (("anna", 0),)).entries)
        first = [call() for call in calls]
        self.assertEqual([call() for call in reversed(calls)], first[::-1])
        self.assertEqual((NET, STARTS), (Net((BERT, ANNA), ("port",)), (("bert", 8),)))

    def test_equal_arguments_give_equal_answers(self):
        self.assertEqual(earliest(NET, STARTS), earliest(Net((BERT, ANNA), ("port",)), (("bert", 8),)))


if __name__ == "__main__":
    unittest.main()
