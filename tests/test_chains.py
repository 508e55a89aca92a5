"""Promises [7] and [8], and `chain`, `is_chain` and `delivery` of handrounds/nets/earliest.py."""

import random
import unittest

from handrounds.errors import UnknownNode
from handrounds.nets.earliest import chain, delivery, is_chain
from handrounds.nets.nets import Net
from handrounds.rounds.couriers import Courier
from handrounds.rounds.rounds import Round
from samples import (
    ANNA, BERT, BILLION, FAR, NET, NO_NAMES, fixed, handed, horizon, leads, net_of, nodes_of, some_boxes, some_rows,
    stretched)

STARTS = (("bert", 8),)
LINKS = ((19, "mill", "bert", "anna"), (21, "port", "anna", "@port"))
# Where a string is no node, whatever else stands in the hand-over.
NO_NODES = ("carl", "port", "mill", "@mill", "@anna", "@bert", "@", "", "@@port", "Anna", "anna ") + NO_NAMES


def drawn(seed, many, latest=30):
    """Nets with some starts each: rows, boxes, starts."""
    chance = random.Random(seed)
    for _ in range(many):
        rows, boxes = some_rows(chance, chance.randint(1, 5)), some_boxes(chance, chance.randint(0, 4))
        nodes = nodes_of(rows, boxes)
        yield rows, boxes, tuple((chance.choice(nodes), chance.randint(0, latest))
                                 for _ in range(chance.randint(1, 3)))


class Chains(unittest.TestCase):
    def test_the_example_of_the_document(self):
        self.assertEqual(chain(NET, STARTS, "@port"), LINKS)
        self.assertEqual(chain(node="anna", starts=STARTS, net=NET), LINKS[:1])

    def test_the_node_of_a_start(self):
        self.assertEqual(chain(NET, STARTS, "bert"), ())
        self.assertEqual(chain(NET, (("bert", 30), ("bert", 8)), "bert"), ())
        self.assertEqual(chain(NET, (("bert", 8), ("anna", 15)), "anna"), ())

    def test_the_node_of_a_start_at_the_tick_of_a_hand_over(self):
        self.assertEqual(chain(NET, (("bert", 8), ("anna", 19)), "anna"), ())
        self.assertEqual(chain(NET, (("anna", 19), ("bert", 8)), "anna"), ())
        self.assertEqual(chain(NET, (("bert", 8), ("@port", 21)), "@port"), ())
        self.assertEqual(chain(NET, (("bert", 7), ("anna", 7)), "anna"), ())

    def test_the_node_of_a_start_that_is_too_late(self):
        self.assertEqual(chain(NET, (("bert", 8), ("anna", 20)), "anna"), LINKS[:1])
        self.assertEqual(chain(NET, (("@port", 22), ("bert", 8)), "@port"), LINKS)

    def test_no_chain(self):
        net = Net((ANNA, BERT, Courier("carl", Round(5), 0, 0)), ("port", "moor"))
        for node in ("carl", "@moor"):
            self.assertIsNone(chain(net, STARTS, node))
        self.assertIsNone(chain(net, (("carl", 0), ("@moor", 3)), "anna"))
        self.assertEqual(chain(net, (("carl", 0),), "carl"), ())

    def test_to_each_node_of_drawn_nets(self):
        for rows, boxes, starts in drawn(31, 120):
            net, has = net_of(rows, boxes), handed(rows, boxes, starts)
            for node in nodes_of(rows, boxes):
                told = chain(net, starts, node)
                where = (rows, boxes, starts, node, told)
                if node not in has:
                    self.assertIsNone(told, where)
                elif (node, has[node]) in starts:
                    self.assertEqual(told, (), where)
                else:
                    self.assertIs(type(told), tuple)
                    self.assertEqual({type(link) for link in told}, {tuple}, where)
                    self.assertTrue(leads(rows, boxes, starts, told, node), where)
                    self.assertEqual(told[-1][0], has[node], where)
                if told is not None:
                    self.assertIs(is_chain(net, starts, told, node), True, where)

    def test_long_periods(self):
        for rows, boxes, starts in drawn(32, 40):
            factor = BILLION // 8 - 5
            net, has = net_of(stretched(rows, factor), boxes), handed(rows, boxes, starts)
            late = tuple((node, tick * factor) for node, tick in starts)
            for node in has:
                told = chain(net, late, node)
                short = tuple((tick // factor, place, giver, taker) for tick, place, giver, taker in told)
                self.assertEqual([link[0] % factor for link in told], [0] * len(told))
                self.assertTrue(leads(rows, boxes, starts, short, node))
                self.assertEqual([link[0] for link in told[-1:]], [has[node] * factor] * len(told[-1:]))

    def test_a_row_of_twelve_at_one_tick(self):
        net = Net(tuple(Courier(name, Round(1, (0, "x")), 0, 4) for name in "abcdefghijkl"), ("x",))
        told = chain(net, (("c", 0),), "k")
        self.assertEqual((told[0][2], told[-1][3], told[-1][0]), ("c", "k", 4))
        self.assertIs(is_chain(net, (("c", 0),), told, "k"), True)

    def test_unknown_nodes(self):
        for node in NO_NODES:
            with self.subTest(node=node), self.assertRaises(UnknownNode) as caught:
                chain(NET, STARTS, node)
            self.assertIs(type(caught.exception), UnknownNode)
            self.assertEqual(caught.exception.name, node)

    def test_unknown_starts_first(self):
        for node in ("anna", "carl", ""):
            with self.assertRaises(UnknownNode) as caught:
                chain(NET, (("bert", 8), ("dora", 3), ("@moor", 3)), node)
            self.assertEqual(caught.exception.name, "dora")


class IsChain(unittest.TestCase):
    def assert_chain(self, links, wanted, starts=STARTS, node="@port", net=NET):
        self.assertIs(is_chain(net, starts, links, node), wanted, (links, starts, node))

    def test_right_ones(self):
        self.assert_chain(LINKS, True)
        self.assert_chain(LINKS[:1], True, node="anna")
        self.assertIs(is_chain(node="@port", links=LINKS, starts=STARTS, net=NET), True)

    def test_right_ones_that_are_not_the_earliest(self):
        self.assert_chain(((31, "mill", "bert", "anna"), (45, "port", "anna", "@port")), True)
        self.assert_chain(((19, "mill", "bert", "anna"), (FAR - FAR % 6 + 3, "port", "anna", "@port")), True)

    def test_without_hand_overs(self):
        self.assert_chain((), True, node="bert")
        self.assert_chain((), True, starts=(("bert", 8), ("anna", 90)), node="anna")
        self.assert_chain((), False, node="anna")
        for node in NO_NODES:
            self.assert_chain((), False, node=node)

    def test_another_tick(self):
        for tick in (0, 7, 8, 13, 18, 20, 21, 25, 31, FAR):
            self.assert_chain(((tick, "mill", "bert", "anna"), LINKS[1]), False)
        for tick in (3, 15, 19, 20, 22, 25):
            self.assert_chain((LINKS[0], (tick, "port", "anna", "@port")), False)

    def test_another_place(self):
        for place in ("port", "ford", "@mill", "", "Mill", "mil"):
            self.assert_chain(((19, place, "bert", "anna"), LINKS[1]), False)
        for place in ("mill", "ford", "@port", "", "por"):
            self.assert_chain((LINKS[0], (21, place, "anna", "@port")), False)

    def test_nobody_meets_at_no_place(self):
        self.assert_chain(((8, "", "bert", "anna"),), False, node="anna")
        self.assert_chain(((20, "", "bert", "anna"), LINKS[1]), False)
        self.assert_chain(((8, "", "bert", "@"),), False, node="@")

    def test_another_giver(self):
        for giver in ("anna", "@port") + NO_NODES:
            self.assert_chain(((19, "mill", giver, "anna"), LINKS[1]), False)
        for giver in ("bert", "@port") + NO_NODES:
            self.assert_chain((LINKS[0], (21, "port", giver, "@port")), False)

    def test_another_taker(self):
        for taker in ("bert", "@port") + NO_NODES:
            self.assert_chain(((19, "mill", "bert", taker), LINKS[1]), False)
        for taker in ("anna", "bert") + NO_NODES:
            self.assert_chain((LINKS[0], (21, "port", "anna", taker)), False)
            self.assert_chain((LINKS[0], (21, "port", "anna", taker)), False, node=taker)

    def test_a_box_that_is_not_there(self):
        self.assert_chain(((11, "mill", "bert", "@mill"),), False, node="@mill")
        self.assert_chain(((11, "mill", "bert", "@mill"), (13, "mill", "@mill", "anna")), False, node="anna")
        self.assert_chain(((13, "mill", "@mill", "anna"),), False, node="anna")
        net = Net((ANNA, BERT), ("mill",))
        self.assert_chain(((11, "mill", "bert", "@mill"), (13, "mill", "@mill", "anna")), True, node="anna", net=net)

    def test_another_order(self):
        self.assert_chain(LINKS[::-1], False)
        self.assert_chain(LINKS[::-1], False, node="anna")

    def test_ticks_that_descend(self):
        self.assert_chain(((19, "mill", "bert", "anna"), (15, "port", "anna", "@port")), False)
        self.assert_chain(((31, "mill", "bert", "anna"), LINKS[1]), False)

    def test_equal_ticks(self):
        net = Net(tuple(Courier(name, Round(6, (0, "x")), 0, 0) for name in "abc"), ("x",))
        links = ((6, "x", "a", "b"), (6, "x", "b", "@x"), (6, "x", "@x", "c"))
        self.assert_chain(links, True, (("a", 6),), "c", net)
        self.assert_chain(links[1:], False, (("a", 6),), "c", net)
        self.assert_chain(links[1:], True, (("b", 6),), "c", net)
        self.assert_chain(links, False, (("a", 7),), "c", net)

    def test_other_starts(self):
        self.assert_chain(LINKS, True, (("bert", 19),))
        self.assert_chain(LINKS, False, (("bert", 20),))
        self.assert_chain(LINKS, False, (("anna", 8),))
        self.assert_chain(LINKS, False, (("@port", 8), ("anna", 0)))
        self.assert_chain(LINKS, True, (("anna", 0), ("bert", 90), ("bert", 8)))
        self.assert_chain(LINKS, False, (("anna", 0), ("bert", 90), ("bert", 20)))
        self.assert_chain(LINKS[1:], True, (("bert", 8), ("anna", 20)))
        self.assert_chain(LINKS[1:], False, (("bert", 8), ("anna", 22)))

    def test_a_start_serves_only_the_first_hand_over(self):
        links = ((3, "port", "anna", "@port"), (7, "mill", "bert", "anna"))
        self.assert_chain(links, False, (("anna", 0), ("bert", 0)), "anna")
        self.assert_chain(links[1:], True, (("anna", 0), ("bert", 0)), "anna")

    def test_another_last_node(self):
        for node in ("anna", "bert") + NO_NODES:
            self.assert_chain(LINKS, False, node=node)
        for node in ("@port", "bert") + NO_NODES:
            self.assert_chain(LINKS[:1], False, node=node)

    def test_a_hand_over_twice_or_left_out(self):
        self.assert_chain((LINKS[0],) + LINKS, False)
        self.assert_chain(LINKS + LINKS[1:], False)
        self.assert_chain(LINKS + LINKS, False)
        self.assert_chain(LINKS[1:], False)
        self.assert_chain(LINKS[:1], False)

    def test_there_and_back(self):
        links = LINKS + ((27, "port", "@port", "anna"), (31, "mill", "anna", "bert"))
        self.assert_chain(links, True, node="bert")
        self.assert_chain(((19, "mill", "bert", "anna"), (19, "mill", "anna", "bert")) + LINKS, True)

    def test_nobody_meets_oneself(self):
        self.assert_chain(((11, "mill", "bert", "bert"),), False, node="bert")
        self.assert_chain(((9, "port", "@port", "@port"),), False, (("@port", 0),))
        self.assert_chain(LINKS + ((21, "port", "@port", "@port"),), False)

    def test_before_a_courier_goes(self):
        net = Net((Courier("a", Round(2, (0, "x")), 0, 20), Courier("b", Round(2, (0, "x")), 0, 0)), ("x",))
        for tick, wanted in ((0, False), (18, False), (19, False), (20, True), (22, True)):
            self.assert_chain(((tick, "x", "b", "a"),), wanted, (("b", 0),), "a", net)
            self.assert_chain(((tick, "x", "a", "@x"),), wanted, (("a", 0),), "@x", net)

    def test_two_boxes_never_meet(self):
        net = Net((ANNA,), ("mill", "port"))
        for place in ("mill", "port"):
            self.assert_chain(((7, place, "@mill", "@port"),), False, (("@mill", 0),), "@port", net)

    def test_a_place_with_the_name_of_a_courier(self):
        net = Net((ANNA, Courier("mill", Round(1, (0, "mill")), 0, 0)), ("mill",))
        self.assert_chain(((7, "mill", "mill", "anna"),), True, (("mill", 0),), "anna", net)
        self.assert_chain(((7, "mill", "@mill", "anna"),), True, (("@mill", 0),), "anna", net)
        self.assert_chain(((7, "mill", "@mill", "mill"),), True, (("@mill", 0),), "mill", net)
        self.assert_chain(((7, "@mill", "@mill", "anna"),), False, (("@mill", 0),), "anna", net)

    def test_changed_chains_of_drawn_nets(self):
        chance = random.Random(33)
        seen = {True: 0, False: 0}
        for rows, boxes, starts in drawn(34, 150):
            net, nodes = net_of(rows, boxes), nodes_of(rows, boxes)
            for node in nodes:
                links = self.changed(chance, list(chain(net, starts, node) or ()), nodes)
                last = chance.choice((node, node, links[-1][3] if links else node, chance.choice(nodes)))
                wanted = leads(rows, boxes, starts, links, last)
                seen[wanted] += 1
                self.assertIs(is_chain(net, starts, links, last), wanted, (rows, boxes, starts, links, last))
        self.assertGreater(min(seen.values()), 150)

    def changed(self, chance, links, nodes):
        """The hand-overs with something changed, or not."""
        for _ in range(chance.randint(0, 2)):
            index = chance.randrange(len(links) + 1)
            kind = chance.choice(("drop", "twice", "tick", "place", "giver", "taker", "later"))
            if index == len(links) or kind == "twice":
                links = links[:index] + links[index - 1:index] + links[index:]
            elif kind == "drop":
                links = links[:index] + links[index + 1:]
            else:
                tick, place, giver, taker = links[index]
                tick += {"tick": chance.choice((-1, 1)), "later": chance.choice((12, 24, 120))}.get(kind, 0)
                place = chance.choice(("mill", "port", "")) if kind == "place" else place
                giver = chance.choice(nodes) if kind == "giver" else giver
                taker = chance.choice(nodes) if kind == "taker" else taker
                links = links[:index] + [(tick, place, giver, taker)] + links[index + 1:]
        return tuple(links)

    def test_unknown_starts(self):
        for links in ((), LINKS, LINKS[::-1]):
            with self.assertRaises(UnknownNode) as caught:
                is_chain(NET, (("bert", 8), ("dora", 3), ("carl", 3)), links, "nobody")
            self.assertIs(type(caught.exception), UnknownNode)
            self.assertEqual(caught.exception.name, "dora")


class Delivery(unittest.TestCase):
    def assert_delivery(self, place, wanted, net=NET, starts=STARTS):
        self.assertEqual(delivery(net, starts, place), wanted, (net, starts, place))

    def test_the_example_of_the_document(self):
        self.assert_delivery("mill", 11)
        self.assertEqual(delivery(place="mill", starts=STARTS, net=NET), 11)

    def test_couriers_only(self):
        self.assert_delivery("mill", 19, starts=(("anna", 14),))
        self.assert_delivery("mill", 13, starts=(("anna", 13),))
        self.assert_delivery("mill", 15, starts=(("anna", 14), ("bert", 12)))
        self.assert_delivery("port", 21, Net((ANNA, BERT), ()))
        self.assert_delivery("port", 15, Net((ANNA, BERT), ()), (("anna", 14), ("bert", 8)))
        self.assert_delivery("port", 9, Net((ANNA, BERT), ()), (("anna", 14), ("bert", 2)))

    def test_a_box(self):
        self.assert_delivery("port", 21)
        self.assert_delivery("port", 10, starts=(("@port", 10), ("bert", 8)))
        self.assert_delivery("port", 8, Net((ANNA, BERT), ("port", "mill")), (("@port", 8),))
        self.assert_delivery("moor", 5, Net((), ("moor",)), (("@moor", 5),))

    def test_a_box_is_there_at_every_tick(self):
        for tick in (-FAR, -1, 0, FAR):
            self.assert_delivery("port", tick, starts=(("@port", tick),))

    def test_a_box_and_couriers(self):
        net = Net((ANNA, BERT), ("mill", "port"))
        self.assert_delivery("mill", 8, net, (("@mill", 8),))
        self.assert_delivery("mill", 3, net, (("@mill", 8), ("bert", 2)))
        self.assert_delivery("port", 15, net)

    def test_a_courier_that_is_there_before_it_has_the_letter(self):
        self.assert_delivery("mill", 7, starts=(("@port", 3),))
        self.assert_delivery("mill", 13, starts=(("@port", 4),))

    def test_nobody_is_ever_there(self):
        for place in ("moor", "anna", "bert", "x", "abcdefghijkl"):
            self.assert_delivery(place, None)

    def test_couriers_that_never_have_it(self):
        net = Net((ANNA, BERT, Courier("carl", Round(3, (0, "moor")), 0, 0)), ("port", "ford"))
        self.assert_delivery("moor", None, net)
        self.assert_delivery("ford", None, net)
        self.assert_delivery("moor", 9, net, (("carl", 7),))
        self.assert_delivery("mill", None, net, (("carl", 7), ("@ford", 0)))

    def test_before_and_after_couriers_go(self):
        late = Courier("late", Round(4, (1, "moor"), (3, "port")), 0, 40)
        net = Net((late,), ("port",))
        for tick, wanted in ((0, 41), (39, 41), (41, 41), (42, 45)):
            self.assert_delivery("moor", wanted, net, (("late", tick),))
        for tick, wanted in ((0, 45), (43, 45), (44, 49)):
            self.assert_delivery("moor", wanted, net, (("@port", tick),))

    def test_far_ticks_and_long_periods(self):
        net = Net((Courier("a", Round(BILLION, (3, "x"), (5, "y")), 0, 0),
                   Courier("b", Round(BILLION - 1, (0, "x"), (1, "z")), 0, 0)), ())
        both = (BILLION - 3) * (BILLION - 1)
        self.assertEqual((both % BILLION, both % (BILLION - 1)), (3, 0))
        self.assert_delivery("z", both + 1, net, (("a", 0),))
        self.assert_delivery("y", FAR + 5, net, (("a", FAR),))

    def test_drawn_nets(self):
        for rows, boxes, starts in drawn(35, 120):
            net, has = net_of(rows, boxes), handed(rows, boxes, starts)
            end = horizon(rows, boxes, [tick for _, tick in starts])
            for place in ("mill", "port", "ford", "pass", "moor", "none"):
                ticks = [tick for row in rows for tick in range(has.get(row[0], end), end)
                         if fixed(tick, *row[1:]) == place]
                ticks += [has["@" + place]] if "@" + place in has else []
                self.assert_delivery(place, min(ticks, default=None), net, starts)

    def test_unknown_starts(self):
        for place in ("mill", "nowhere"):
            with self.assertRaises(UnknownNode) as caught:
                delivery(NET, (("bert", 8), ("dora", 3), ("carl", 3)), place)
            self.assertIs(type(caught.exception), UnknownNode)
            self.assertEqual(caught.exception.name, "dora")


class NothingChanges(unittest.TestCase):
    def test_calls_can_be_repeated(self):
        calls = (lambda: chain(NET, STARTS, "@port"), lambda: is_chain(NET, STARTS, LINKS, "@port"),
                 lambda: delivery(NET, STARTS, "mill"), lambda: chain(NET, (("anna", 0),), "bert"))
        first = [call() for call in calls]
        self.assertEqual([call() for call in reversed(calls)], first[::-1])
        self.assertEqual((NET, STARTS), (Net((BERT, ANNA), ("port",)), (("bert", 8),)))
        self.assertEqual(LINKS, ((19, "mill", "bert", "anna"), (21, "port", "anna", "@port")))

    def test_equal_arguments_give_the_same_chain(self):
        chance = random.Random(36)
        for rows, boxes, starts in drawn(37, 30):
            one = net_of(rows, boxes)
            two = net_of(chance.sample(rows, len(rows)), chance.sample(boxes, len(boxes)))
            for node in one.nodes:
                self.assertEqual(chain(one, starts, node), chain(two, starts, node))


if __name__ == "__main__":
    unittest.main()
