"""Promises [2] and [5], and the section of the interface on handrounds/nets/nets.py."""

import random
import unittest

from handrounds.errors import BadNet, UnknownNode
from handrounds.nets.nets import Net
from handrounds.rounds.couriers import Courier
from handrounds.rounds.rounds import Round
from samples import NAMES, NO_NAMES

WAY = Round(6, (0, "mill"), (2, "port"))
PEOPLE = ("anna", "bert", "carl", "dora", "emil", "fred", "gina", "hans", "ida", "jan", "karl", "lena", "mona", "nora")
PLACES = ("abbey", "bridge", "castle", "dam", "elm", "ford", "gate", "hall", "inn", "jetty", "kiln", "lane", "mill")


def courier(name, start=1, since=0, way=WAY):
    """A courier whose way does not matter."""
    return Courier(name, way, start, since)


def couriers(*names):
    """The couriers of these names, in this order."""
    return tuple(courier(name) for name in names)


ANNA, BERT, CARL = couriers("anna", "bert", "carl")


class Making(unittest.TestCase):
    def assert_net(self, hands, boxes, given_hands, given_boxes):
        net = Net(couriers(*given_hands), tuple(given_boxes))
        self.assertEqual(net.hands, tuple(hands))
        self.assertEqual(net.boxes, tuple(boxes))
        self.assertEqual(net.nodes, tuple("@" + place for place in boxes) + tuple(hands))
        self.assertEqual(len(net), len(hands) + len(boxes))
        self.assertEqual(repr(net), "Net(" + " ".join(net.nodes) + ")")
        self.assertEqual(f"{net}", repr(net))
        for node in net.nodes:
            self.assertIs(net.has(node), True)
        for name in hands:
            self.assertEqual(net.courier(name), courier(name))

    def test_none_to_twelve_of_both_in_any_order(self):
        chance = random.Random(5)
        for many in range(13):
            for more in range(13):
                hands, boxes = PEOPLE[:many], PLACES[:more]
                with self.subTest(hands=many, boxes=more):
                    self.assert_net(hands, boxes, hands, boxes)
                    self.assert_net(hands, boxes, hands[::-1], boxes[::-1])
                    self.assert_net(hands, boxes, chance.sample(hands, many), chance.sample(boxes, more))

    def test_a_courier_and_a_box_may_have_one_name(self):
        net = Net(couriers("mill", "anna"), ("anna", "mill"))
        self.assertEqual(net.nodes, ("@anna", "@mill", "anna", "mill"))

    def test_in_pythons_own_order(self):
        net = Net(couriers("b", "ab", "aa", "a"), ("z", "az", "a"))
        self.assertEqual((net.hands, net.boxes), (("a", "aa", "ab", "b"), ("a", "az", "z")))
        self.assertEqual(net.nodes, ("@a", "@az", "@z", "a", "aa", "ab", "b"))

    def test_every_name_is_a_place(self):
        for name in NAMES:
            self.assertEqual(Net((), (name,)).nodes, ("@" + name,))

    def test_by_keyword(self):
        net = Net(boxes=("port",), couriers=(BERT, ANNA))
        self.assertEqual(net, Net((ANNA, BERT), ("port",)))
        self.assertEqual(net.courier(name="bert"), BERT)
        self.assertIs(net.has(node="@port"), True)

    def test_they_are_properties(self):
        for name in ("hands", "boxes", "nodes"):
            self.assertIsInstance(vars(Net)[name], property)

    def test_kinds(self):
        for net in (Net((), ()), Net((BERT, ANNA), ("port",))):
            self.assertEqual([type(told) for told in (net.hands, net.boxes, net.nodes)], [tuple] * 3)


class Shown(unittest.TestCase):
    def test_repr(self):
        self.assertEqual(repr(Net((), ())), "Net()")
        self.assertEqual(repr(Net((ANNA,), ())), "Net(anna)")
        self.assertEqual(repr(Net((), ("port",))), "Net(@port)")
        self.assertEqual(repr(Net((BERT, ANNA), ("port", "mill"))), "Net(@mill @port anna bert)")

    def test_in_an_f_string_and_in_a_list(self):
        net = Net((BERT, ANNA), ("port",))
        self.assertEqual(f"<{net}> {[net]}", "<Net(@port anna bert)> [Net(@port anna bert)]")


class Asked(unittest.TestCase):
    NET = Net((BERT, ANNA), ("port", "mill"))

    def test_courier(self):
        self.assertIs(self.NET.courier("anna"), ANNA)
        self.assertIs(self.NET.courier("bert"), BERT)

    def test_has(self):
        for node in ("anna", "bert", "@port", "@mill"):
            self.assertIs(self.NET.has(node), True)
        for node in ("", "@", "mill", "port", "@anna", "@bert", "carl", "ann", "annab", "Anna", "anna ", "@@port",
                     "@por", "@port ", "@ford", "Net(anna)", "anna bert", "x" * 60) + NO_NAMES:
            with self.subTest(node=node):
                self.assertIs(self.NET.has(node), node == "@mill")

    def test_unknown_couriers(self):
        unknown = ("carl", "ann", "annab", "Anna", "port", "mill", "@port", "@mill", "@anna", "@ford", "x" * 60)
        for name in unknown + NO_NAMES:
            for net in (self.NET, Net((), ()), Net((), ("port", "mill", "ford"))):
                with self.subTest(name=name, net=net), self.assertRaises(UnknownNode) as caught:
                    net.courier(name)
                self.assertEqual(caught.exception.name, name)
                self.assertIs(type(caught.exception), UnknownNode)


class Equal(unittest.TestCase):
    def assert_equal(self, one, two, wanted):
        with self.subTest(one=one, two=two):
            self.assertIs(one == two, wanted)
            self.assertIs(two == one, wanted)
            self.assertIs(one != two, not wanted)

    def test_whatever_the_order(self):
        again = courier("anna", way=Round(6, (0, "mill"), (2, "port")))
        self.assert_equal(Net((), ()), Net((), ()), True)
        self.assert_equal(Net((ANNA, BERT), ("mill", "port")), Net((BERT, again), ("port", "mill")), True)
        self.assert_equal(Net((ANNA, BERT, CARL), ()), Net((CARL, ANNA, BERT), ()), True)
        chance = random.Random(3)
        all_hands, all_boxes = couriers(*PEOPLE[:12]), PLACES[:12]
        for _ in range(20):
            other = Net(tuple(chance.sample(all_hands, 12)), tuple(chance.sample(all_boxes, 12)))
            self.assert_equal(Net(all_hands, all_boxes), other, True)

    def test_one_more_fewer_or_changed(self):
        net = Net((ANNA, BERT), ("mill", "port"))
        for hands, boxes in (
                ((ANNA,), ("mill", "port")), ((ANNA, BERT, CARL), ("mill", "port")), ((ANNA, CARL), ("mill", "port")),
                ((), ("mill", "port")), ((ANNA, BERT), ("mill",)), ((ANNA, BERT), ("port",)), ((ANNA, BERT), ()),
                ((ANNA, BERT), ("mill", "port", "ford")), ((ANNA, BERT), ("mill", "ford")), ((), ())):
            self.assert_equal(net, Net(hands, boxes), False)

    def test_a_courier_that_differs_in_one_attribute(self):
        net = Net((ANNA, BERT), ("port",))
        for other in (courier("anna", start=7), courier("anna", since=1), courier("anna", way=Round(6, (0, "mill"))),
                      courier("anna", way=Round(7, *WAY.stops)), courier("ann")):
            self.assert_equal(net, Net((other, BERT), ("port",)), False)
            self.assert_equal(net, Net((BERT, other), ("port",)), False)

    def test_couriers_that_exchanged_their_rounds(self):
        one, two = Round(6, (0, "mill")), Round(4, (3, "mill"))
        self.assert_equal(Net((courier("anna", way=one), courier("bert", way=two)), ()),
                          Net((courier("anna", way=two), courier("bert", way=one)), ()), False)

    def test_a_courier_is_no_box(self):
        self.assert_equal(Net(couriers("port"), ()), Net((), ("port",)), False)

    def test_other_kinds(self):
        net = Net((ANNA,), ("port",))
        for other in (repr(net), net.nodes, list(net.nodes), 2, 0, None, True, False, {}, b"", ANNA, WAY, Net,
                      ((ANNA,), ("port",)), object()):
            self.assert_equal(net, other, False)
        self.assert_equal(Net((), ()), (), False)


class Wrong(unittest.TestCase):
    def assert_bad(self, name, hands, boxes):
        with self.subTest(name=name, hands=hands, boxes=boxes), self.assertRaises(BadNet) as caught:
            Net(hands, boxes)
        self.assertIs(type(caught.exception), BadNet)
        self.assertEqual(caught.exception.name, name)

    def test_a_courier_name_again(self):
        self.assert_bad("anna", (ANNA, ANNA), ())
        self.assert_bad("anna", (ANNA, courier("anna", 5, 7, Round(3))), ())
        self.assert_bad("anna", (ANNA, BERT, ANNA), ("port",))
        self.assert_bad("bert", (ANNA, BERT, CARL, BERT), ())

    def test_the_first_courier_that_stands_again(self):
        self.assert_bad("bert", (ANNA, BERT, BERT, ANNA), ())
        self.assert_bad("anna", (ANNA, BERT, ANNA, BERT), ())
        self.assert_bad("carl", (CARL, CARL, ANNA, ANNA), ())

    def test_the_thirteenth_courier(self):
        self.assert_bad("mona", couriers(*PEOPLE[:13]), ())
        self.assert_bad("mona", couriers(*PEOPLE), PLACES[:12])
        self.assert_bad("anna", couriers(*PEOPLE[12::-1]), ())
        self.assert_bad("anna", couriers(*PEOPLE[:12], "anna"), ())
        self.assert_bad("mona", couriers(*PEOPLE[:13], "anna"), ())

    def test_a_courier_again_ahead_of_the_thirteenth(self):
        self.assert_bad("lena", couriers(*PEOPLE[:12][::-1], "lena"), ())
        for index in range(1, 12):
            names = PEOPLE[:index] + ("anna",) + PEOPLE[index:13]
            self.assert_bad("anna", couriers(*names), ())

    def test_a_place_that_is_no_name(self):
        for place in NO_NAMES:
            self.assert_bad(place, (), (place,))
            self.assert_bad(place, (ANNA,), ("mill", place, "port"))

    def test_a_place_again(self):
        self.assert_bad("mill", (), ("mill", "mill"))
        self.assert_bad("mill", (ANNA,), ("mill", "port", "mill"))
        self.assert_bad("port", (), ("mill", "port", "ford", "port", "mill"))

    def test_the_thirteenth_place(self):
        self.assert_bad("mill", (), PLACES[:13])
        self.assert_bad("abbey", couriers(*PEOPLE[:12]), PLACES[12::-1])
        self.assert_bad("port", (), PLACES[:12] + ("port", "ford"))
        self.assert_bad("Port", (), PLACES[:12] + ("Port", "abbey"))

    def test_the_first_wrong_place(self):
        self.assert_bad("", (), ("mill", "", "mill"))
        self.assert_bad("mill", (), ("mill", "mill", ""))
        self.assert_bad("@port", (), ("port", "@port", "port"))
        for index in range(1, 12):
            self.assert_bad("Mill", (), PLACES[:index] + ("Mill",) + PLACES[index:13])
            self.assert_bad("abbey", (), PLACES[:index] + ("abbey",) + PLACES[index:13])

    def test_couriers_ahead_of_places(self):
        self.assert_bad("anna", (ANNA, ANNA), ("", "mill", "mill"))
        self.assert_bad("mona", couriers(*PEOPLE[:13]), ("",) + PLACES)

    def test_a_wrong_net_leaves_nothing_behind(self):
        self.assert_bad("anna", (ANNA, ANNA), ("port",))
        self.assertEqual(Net((ANNA,), ("port",)).nodes, ("@port", "anna"))


class NothingChanges(unittest.TestCase):
    def test_calls_can_be_repeated(self):
        net = Net((BERT, ANNA), ("port", "mill"))
        calls = (lambda: net.hands, lambda: net.boxes, lambda: net.nodes, lambda: net.courier("anna"),
                 lambda: net.has("@port"), lambda: len(net), lambda: repr(net), lambda: net == Net((), ()))
        first = [call() for call in calls]
        self.assertEqual([call() for call in reversed(calls)], first[::-1])
        self.assertEqual(net, Net((ANNA, BERT), ("mill", "port")))

    def test_arguments_stay(self):
        hands, boxes = (BERT, ANNA), ("port", "mill")
        Net(hands, boxes)
        self.assertEqual((hands, boxes), ((courier("bert"), courier("anna")), ("port", "mill")))

    def test_two_nets_do_not_share_anything(self):
        one, two = Net((ANNA,), ("port",)), Net((BERT,), ("mill",))
        self.assertEqual((one.nodes, two.nodes), (("@port", "anna"), ("@mill", "bert")))


if __name__ == "__main__":
    unittest.main()
