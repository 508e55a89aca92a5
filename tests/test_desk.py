"""Promises [1], [2], [6] and [10], and the section of the interface on handrounds/desk.py."""

import itertools
import unittest

from handrounds.change.changes import Change, Close, Join, Leave, Open, Pause
from handrounds.desk import Desk
from handrounds.errors import BadChange, BadLetter, BadNet, TooFew, UnknownField, UnknownNode
from handrounds.nets.closed import closed_set, least_pause
from handrounds.nets.earliest import Table, earliest
from handrounds.nets.nets import Net
from handrounds.rounds.couriers import Courier
from handrounds.rounds.rounds import Round
from samples import ANNA, BERT, BILLION, EIGHT, FAR, NAMES, NET, NO_NAMES, shown

CARL = Courier("carl", Round(10, (4, "mill")), 2, 7)
TWELVE = tuple(Courier(name, Round(60, *EIGHT), 0, 0) for name in "abcdefghijkl")
FIELDS = ("staff", "boxed", "posted", "copies", "calls")


def busy_desk():
    """A desk at 8, at which anna and bert have the news, and nobody has the note."""
    desk = Desk(NET)
    desk.post("news", "bert")
    desk.wait(8)
    desk.post("note")
    return desk


class DeskCase(unittest.TestCase):
    def assert_raises(self, kind, told, desk, call):
        """The call raises the error, and the desk shows the same as before it."""
        before = shown(desk)
        with self.subTest(told=told), self.assertRaises(kind) as caught:
            call()
        self.assertIs(type(caught.exception), kind)
        self.assertEqual(list(vars(caught.exception).values()), [told])
        self.assertIsNone(desk.busy)
        self.assertEqual(shown(desk), before)


class Making(DeskCase):
    def test_the_example_of_the_document(self):
        desk = Desk.plain(ANNA, BERT)
        first = desk.post("news", "bert")
        self.assertEqual(desk.wait(8), 8)
        self.assertEqual(desk.change(Open("port"), Pause("bert", 4)), desk.net)
        self.assertEqual([first, desk.holders("news"), desk.got("news", "anna"), desk.forecast("news").tick_of("@port")],
                         [("bert",), ("anna", "bert"), 7, 9])

    def test_a_new_desk(self):
        for net in (Net((), ()), NET, Net(TWELVE, tuple("abcdefghijkl"))):
            for desk in (Desk(net), Desk(net=net)):
                self.assertEqual((desk.tick, desk.net, desk.letters, len(desk), desk.busy), (0, net, (), 0, None))
                self.assertIs(type(desk.letters), tuple)

    def test_plain(self):
        for couriers in ((), (BERT,), (BERT, ANNA), TWELVE):
            for desk in (Desk.plain(*couriers), Desk(NET).plain(*couriers)):
                self.assertIs(type(desk), Desk)
                self.assertEqual(desk.net, Net(couriers, ()))
                self.assertEqual((desk.tick, desk.letters, len(desk), desk.busy), (0, (), 0, None))

    def test_plain_with_couriers_that_make_no_net(self):
        for couriers, name in (((ANNA, ANNA), "anna"), ((ANNA, BERT, BERT, ANNA), "bert"), (TWELVE + (CARL,), "carl")):
            with self.assertRaises(BadNet) as caught:
                Desk.plain(*couriers)
            self.assertIs(type(caught.exception), BadNet)
            self.assertEqual(caught.exception.name, name)

    def test_properties(self):
        for name in ("tick", "net", "letters"):
            self.assertIsInstance(vars(Desk)[name], property)
        self.assertIsInstance(vars(Desk)["plain"], classmethod)


class Post(DeskCase):
    def test_to_no_node_one_and_several(self):
        desk = Desk(NET)
        for letter, nodes, wanted in (
                ("one", (), ()), ("two", ("bert",), ("bert",)), ("three", ("bert", "@port"), ("@port", "bert")),
                ("four", ("bert", "@port", "anna"), ("@port", "anna", "bert")), ("five", ("anna",) * 30, ("anna",))):
            told = desk.post(letter, *nodes)
            self.assertEqual((told, type(told)), (wanted, tuple))
            self.assertEqual(desk.holders(letter), wanted)
            for node in NET.nodes:
                self.assertEqual(desk.got(letter, node), 0 if node in wanted else None)
        self.assertEqual(desk.letters, ("five", "four", "one", "three", "two"))
        self.assertEqual((desk.tick, len(desk), desk.net), (0, 5, NET))

    def test_from_the_present_time_on(self):
        desk = Desk(NET)
        desk.wait(7)
        desk.post("news", "bert")
        self.assertEqual((desk.holders("news"), desk.got("news", "bert")), (("bert",), 7))
        desk.wait(1)
        self.assertEqual((desk.holders("news"), desk.got("news", "anna")), (("anna", "bert"), 7))
        desk.post("more", "bert")
        desk.wait(11)
        self.assertEqual(desk.holders("more"), ("bert",))
        desk.wait(1)
        self.assertEqual((desk.holders("more"), desk.got("more", "bert"), desk.got("more", "anna")),
                         (("anna", "bert"), 8, 19))

    def test_every_name(self):
        desk = Desk(NET)
        for letter in NAMES + ("anna", "port"):
            self.assertEqual(desk.post(letter, "anna"), ("anna",))
        self.assertEqual(desk.letters, tuple(sorted(NAMES + ("anna", "port"))))

    def test_to_all_nodes_of_a_full_net(self):
        net = Net(TWELVE, tuple("abcdefghijkl"))
        desk = Desk(net)
        self.assertEqual(desk.post("news", *net.nodes[::-1]), net.nodes)
        desk.wait(FAR)
        self.assertEqual([desk.got("news", node) for node in net.nodes], [0] * 24)

    def test_no_name(self):
        desk = busy_desk()
        for letter in NO_NAMES:
            for nodes in ((), ("anna",), ("dora", "anna")):
                self.assert_raises(BadLetter, letter, desk, lambda: desk.post(letter, *nodes))

    def test_a_letter_that_is_there(self):
        desk = busy_desk()
        for letter in ("news", "note"):
            for nodes in ((), ("anna",), ("dora", "anna")):
                self.assert_raises(BadLetter, letter, desk, lambda: desk.post(letter, *nodes))
        desk.change(Leave("anna"), Leave("bert"), Close("port"))
        self.assertEqual(desk.holders("news"), ())
        self.assert_raises(BadLetter, "news", desk, lambda: desk.post("news"))

    def test_no_node(self):
        desk = busy_desk()
        for name in ("carl", "port", "mill", "@mill", "@anna", "@", "news") + NO_NAMES:
            self.assert_raises(UnknownNode, name, desk, lambda: desk.post("more", name))
            self.assert_raises(UnknownNode, name, desk, lambda: desk.post("more", "anna", name, "dora", "bert"))
        self.assertEqual(desk.post("more", "anna"), ("anna",))


class Wait(DeskCase):
    """By hand: anna is at mill at 1, 7, 13, 19 .. and at port at 3, 9, 15 ..; bert is at mill at 3, 7, 11, 15, 19 .."""

    def test_tick_after_tick(self):
        desk = Desk(NET)
        desk.post("news", "bert")
        for tick in range(1, 25):
            self.assertEqual((desk.wait(1), desk.tick), (tick, tick))
            wanted = {"@port": 9 if tick > 9 else None, "anna": 7 if tick > 7 else None, "bert": 0}
            self.assertEqual({node: desk.got("news", node) for node in NET.nodes}, wanted)
            self.assertEqual(desk.holders("news"), tuple(node for node in NET.nodes if wanted[node] is not None))
        self.assertEqual(len(desk), 25)

    def test_no_tick(self):
        desk = Desk(NET)
        desk.wait(7)
        desk.post("news", "bert")
        for many in range(3):
            self.assertEqual((desk.wait(0), desk.tick, len(desk)), (7, 7, 3 + many))
            self.assertEqual(desk.holders("news"), ("bert",))

    def test_at_once(self):
        for ticks in (10, 11, BILLION, FAR):
            desk = Desk(NET)
            desk.post("news", "bert")
            self.assertEqual((desk.wait(ticks), desk.tick), (ticks, ticks))
            self.assertEqual([desk.got("news", node) for node in NET.nodes], [9, 7, 0])

    def test_far_behind(self):
        desk = Desk(NET)
        self.assertEqual(desk.wait(FAR), FAR)
        desk.post("news", "@port")
        first = FAR + (3 - FAR) % 6
        self.assertEqual(desk.wait(BILLION), FAR + BILLION)
        met = next(tick for tick in range(first, first + 24) if tick % 6 == 1 and tick % 4 == 3)
        self.assertEqual([desk.got("news", node) for node in NET.nodes], [FAR, first, met])

    def test_several_letters(self):
        desk = Desk(NET)
        desk.post("b", "bert")
        desk.post("a", "anna")
        desk.post("none")
        desk.wait(8)
        desk.post("p", "@port")
        desk.wait(2)
        self.assertEqual({letter: [desk.got(letter, node) for node in NET.nodes] for letter in desk.letters},
                         {"a": [3, 0, 7], "b": [9, 7, 0], "none": [None] * 3, "p": [8, 9, None]})

    def test_before_couriers_go(self):
        desk = Desk.plain(Courier("a", Round(2, (0, "x")), 0, 20), Courier("b", Round(3, (0, "x")), 0, 40))
        desk.post("news", "a")
        for ticks, got in ((30, None), (12, None), (1, 42)):
            desk.wait(ticks)
            self.assertEqual(desk.got("news", "b"), got)

    def test_long_periods(self):
        desk = Desk.plain(Courier("a", Round(BILLION, (0, "x")), 0, 1), Courier("b", Round(BILLION - 1, (0, "x")), 0, 0))
        desk.post("news", "a")
        both = BILLION * (BILLION - 1)
        desk.wait(both)
        self.assertEqual(desk.holders("news"), ("a",))
        desk.wait(1)
        self.assertEqual((desk.holders("news"), desk.got("news", "b")), (("a", "b"), both))


class MakingChanges(DeskCase):
    def test_none_one_and_several(self):
        desk = Desk(NET)
        self.assertEqual((desk.change(), len(desk), desk.net), (NET, 1, NET))
        told = desk.change(Open("mill"))
        self.assertIs(type(told), Net)
        self.assertEqual((told, desk.net, len(desk)), (Net((ANNA, BERT), ("mill", "port")), told, 2))
        desk.wait(9)
        told = desk.change(Leave("anna"), Close("port"), Join(CARL), Pause("carl", 3), Change())
        self.assertEqual(told, Net((BERT, Courier("carl", CARL.way, 5, 12)), ("mill",)))
        self.assertEqual((desk.net, desk.tick, len(desk)), (told, 9, 4))
        self.assertEqual(NET, Net((ANNA, BERT), ("port",)))

    def test_at_the_present_time(self):
        for ticks in (0, 6, 7, 8, FAR):
            desk = Desk(NET)
            desk.wait(ticks)
            self.assertEqual(desk.change(Join(CARL), Pause("anna", 5)), Net((
                BERT, Courier("carl", CARL.way, 2, max(7, ticks)), Courier("anna", ANNA.way, 6, ticks + 5)), ("port",)))

    def test_before_anybody_meets(self):
        for change, wanted in ((Pause("anna", 12), ("bert",)), (Leave("anna"), ("bert",)), (Change(), ("anna", "bert")),
                               (Open("mill"), ("@mill", "anna", "bert")), (Close("port"), ("anna", "bert"))):
            desk = Desk(NET)
            desk.post("news", "bert")
            desk.wait(7)
            desk.change(change)
            self.assertEqual(desk.holders("news"), ("bert",))
            desk.wait(1)
            self.assertEqual(desk.holders("news"), wanted)

    def test_who_leaves_loses_all_letters(self):
        desk = Desk(NET)
        desk.post("news", "anna", "bert")
        desk.post("note", "anna")
        desk.wait(2)
        desk.change(Leave("anna"))
        self.assertEqual((desk.holders("news"), desk.holders("note"), desk.letters), (("bert",), (), ("news", "note")))
        desk.change(Join(ANNA))
        self.assertEqual((desk.got("news", "anna"), desk.got("note", "anna"), desk.got("news", "bert")), (None, None, 0))
        desk.wait(8)
        self.assertEqual([desk.got("news", node) for node in NET.nodes], [9, 7, 0])
        self.assertEqual(desk.holders("note"), ())

    def test_who_leaves_and_comes_back_at_once_has_none(self):
        for changes in ((Leave("anna"), Join(ANNA)), (Leave("anna"), Open("mill"), Pause("bert", 4), Join(ANNA)),
                        (Pause("anna", 1), Leave("anna"), Join(ANNA), Pause("anna", 12))):
            desk = Desk(NET)
            desk.post("news", "anna", "bert")
            desk.change(*changes)
            self.assertEqual(desk.holders("news"), ("bert",))

    def test_a_box_that_closes_loses_all_letters(self):
        desk = Desk(NET)
        desk.post("news", "@port", "bert")
        desk.post("note", "@port")
        desk.change(Close("port"))
        self.assertEqual((desk.holders("news"), desk.holders("note")), (("bert",), ()))
        desk.change(Open("port"))
        self.assertEqual((desk.holders("news"), desk.holders("note")), (("bert",), ()))
        self.assertIsNone(desk.got("news", "@port"))
        desk.post("third", "@port")
        desk.change(Close("port"), Open("port"))
        self.assertEqual(desk.holders("third"), ())

    def test_who_joins_or_opens_has_none(self):
        desk = Desk(NET)
        desk.post("news", "anna", "bert", "@port")
        desk.change(Join(CARL), Open("mill"))
        self.assertEqual([desk.got("news", node) for node in desk.net.nodes], [None, 0, 0, 0, None])

    def test_a_pause_keeps_the_letters(self):
        desk = Desk(NET)
        desk.post("news", "anna")
        desk.wait(4)
        desk.change(Pause("anna", 3))
        self.assertEqual([desk.got("news", node) for node in NET.nodes], [3, 0, None])

    def test_a_change_that_cannot_be_made(self):
        desk = busy_desk()
        good = (Open("mill"), Pause("anna", 3), Join(CARL), Leave("bert"))
        for wrong in (Open("port"), Close("moor"), Leave("dora"), Pause("dora", 1), Join(ANNA), Open("no name")):
            for index in range(5):
                changes = good[:index] + (wrong,) + good[index:]
                self.assert_raises(BadChange, index, desk, lambda: desk.change(*changes))
                self.assert_raises(BadChange, index, desk, lambda: desk.change(*changes, wrong))

    def test_because_of_the_ones_before_it(self):
        desk = busy_desk()
        for index, changes in (
                (1, (Leave("anna"), Pause("anna", 1))), (1, (Leave("anna"), Leave("anna"))),
                (2, (Join(CARL), Change(), Join(CARL))), (1, (Open("mill"), Open("mill"))),
                (3, (Close("port"), Open("port"), Close("port"), Close("port"))),
                (4, tuple(Open("m" + sign) for sign in "abcd") + (Open("ma"), Open("port")))):
            self.assert_raises(BadChange, index, desk, lambda: desk.change(*changes))
        places = tuple(Open("m" + sign) for sign in "abcdefghijkl")
        self.assert_raises(BadChange, 11, desk, lambda: desk.change(*places))
        self.assertEqual(len(desk.change(*places[:11]).boxes), 12)

    def test_only_because_of_the_ones_before_it_right(self):
        desk = busy_desk()
        desk.change(Leave("anna"), Join(ANNA), Close("port"), Open("port"), Join(CARL), Pause("carl", 1))
        self.assertEqual(desk.net.hands, ("anna", "bert", "carl"))


class Asking(DeskCase):
    def test_holders_and_got(self):
        desk = busy_desk()
        self.assertEqual((desk.holders("news"), desk.holders(letter="note")), (("anna", "bert"), ()))
        self.assertEqual([desk.got("news", node) for node in NET.nodes], [None, 7, 0])
        self.assertEqual(desk.got(node="anna", letter="news"), 7)
        self.assertEqual([desk.got("note", node) for node in NET.nodes], [None] * 3)

    def test_forecast(self):
        desk = busy_desk()
        told = desk.forecast("news")
        self.assertIs(type(told), Table)
        # At 8, anna has it and is at port next at 9.
        self.assertEqual(told, Table(("@port", 9), ("anna", 8), ("bert", 8)))
        self.assertEqual(desk.forecast(letter="news"), earliest(NET, (("anna", 8), ("bert", 8))))
        self.assertEqual(desk.forecast("note"), Table(("@port", None), ("anna", None), ("bert", None)))
        desk.change(Leave("anna"))
        self.assertEqual(desk.forecast("news"), Table(("@port", None), ("bert", 8)))
        desk.change(Leave("bert"), Close("port"))
        self.assertEqual(desk.forecast("news"), Table())

    def test_what_is_forecast_happens(self):
        desk = busy_desk()
        desk.change(Join(CARL), Open("mill"))
        for letter in ("news", "note"):
            told = desk.forecast(letter)
            now = {node: desk.got(letter, node) for node in desk.net.nodes}
            desk.wait(BILLION)
            for node, tick in told.entries:
                self.assertEqual(desk.got(letter, node), tick if now[node] is None else now[node])
            desk.undo()

    def test_stays_and_escape(self):
        # anna is at mill at odd ticks, carl at even ones.
        desk = Desk.plain(ANNA, Courier("carl", Round(10, (4, "mill")), 2, 0))
        desk.change(Open("port"))
        desk.post("news", "@port")
        desk.post("both", "@port", "carl")
        desk.post("none")
        self.assertEqual((desk.stays("news"), desk.escape("news")), (("@port", "anna"), (1, "anna")))
        self.assertEqual((desk.stays(letter="both"), desk.escape(letter="both")), (("@port", "anna", "carl"), None))
        self.assertEqual((desk.stays("none"), desk.escape("none")), ((), None))
        desk.wait(50)
        self.assertEqual(desk.holders("news"), ("@port", "anna"))
        desk.change(Pause("anna", 1))
        self.assertEqual((desk.stays("news"), desk.escape("news")), (("@port", "anna", "carl"), None))
        self.assertEqual(closed_set(desk.net, desk.holders("news")), desk.stays("news"))
        desk.change(Pause("anna", 1), Close("port"))
        self.assertEqual((desk.stays("news"), desk.escape("news")), (("anna",), (1, "anna")))
        self.assertEqual(least_pause(desk.net, ("anna",)), (1, "anna"))

    def test_no_such_letter(self):
        desk = busy_desk()
        for letter in ("new", "newss", "anna", "port", "more") + NO_NAMES:
            for call in (desk.holders, desk.forecast, desk.stays, desk.escape, lambda name: desk.got(name, "anna"),
                         lambda name: desk.got(name, "dora")):
                self.assert_raises(BadLetter, letter, desk, lambda: call(letter))

    def test_no_such_node(self):
        desk = busy_desk()
        for node in ("carl", "port", "mill", "@mill", "@anna", "@", "news") + NO_NAMES:
            for letter in ("news", "note"):
                self.assert_raises(UnknownNode, node, desk, lambda: desk.got(letter, node))
        desk.change(Leave("anna"))
        self.assert_raises(UnknownNode, "anna", desk, lambda: desk.got("news", "anna"))


class Undo(DeskCase):
    def test_call_by_call(self):
        desk = Desk(NET)
        states = []
        for call in (lambda: desk.post("news", "bert"), lambda: desk.wait(8), lambda: desk.change(Open("mill")),
                     lambda: desk.post("note"), lambda: desk.wait(0), lambda: desk.change(),
                     lambda: desk.change(Leave("bert"), Close("port"), Join(CARL)), lambda: desk.wait(BILLION)):
            states.append(shown(desk))
            call()
        for many in range(8, 0, -1):
            self.assertEqual(len(desk), many)
            self.assertEqual(desk.undo(), states[many - 1]["tick"])
            self.assertEqual(shown(desk), states[many - 1])
        self.assert_raises(TooFew, 0, desk, desk.undo)

    def test_none_some_and_all(self):
        for count in range(4):
            desk = busy_desk()
            self.assertEqual(desk.undo(count=count), (8, 8, 0, 0)[count])
            self.assertEqual((desk.tick, len(desk)), ((8, 8, 0, 0)[count], 3 - count))
            self.assertEqual(desk.letters, (("news", "note"), ("news",), ("news",), ())[count])
        self.assertEqual(shown(desk), shown(Desk(NET)))
        self.assertEqual(desk.undo(count=0), 0)

    def test_again_after_it(self):
        desk = busy_desk()
        desk.undo(count=2)
        self.assertEqual((desk.tick, desk.holders("news"), len(desk)), (0, ("bert",), 1))
        desk.wait(3)
        desk.post("note", "@port")
        desk.wait(1)
        self.assertEqual((desk.holders("note"), len(desk)), (("@port", "anna"), 4))
        desk.undo()
        self.assertEqual((desk.tick, desk.holders("note")), (3, ("@port",)))
        desk.undo(count=3)
        self.assertEqual((desk.tick, desk.letters, len(desk)), (0, (), 0))
        self.assertEqual(desk.post("news"), ())

    def test_asking_and_errors_are_no_calls_to_undo(self):
        desk = busy_desk()
        for call in (lambda: desk.holders("news"), lambda: desk.got("news", "anna"), lambda: desk.forecast("news"),
                     lambda: desk.stays("news"), lambda: desk.escape("news"), lambda: desk.describe(calls=True),
                     lambda: desk.undo(count=0), lambda: desk.letters):
            call()
            self.assertEqual(len(desk), 3)
        self.assert_raises(BadLetter, "news", desk, lambda: desk.post("news"))
        self.assert_raises(BadChange, 0, desk, lambda: desk.change(Leave("dora")))
        self.assertEqual(len(desk), 3)

    def test_too_few(self):
        desk = busy_desk()
        for count in (4, 5, BILLION, FAR):
            self.assert_raises(TooFew, 3, desk, lambda: desk.undo(count=count))
        desk.undo(count=2)
        self.assert_raises(TooFew, 1, desk, lambda: desk.undo(count=2))
        desk.undo()
        for count in (1, 2, FAR):
            self.assert_raises(TooFew, 0, desk, lambda: desk.undo(count=count))
        self.assert_raises(TooFew, 0, Desk(NET), desk.undo)

    def test_by_keyword_only(self):
        desk = busy_desk()
        with self.assertRaises(TypeError):
            desk.undo(1)
        self.assertEqual((len(desk), desk.busy), (3, None))


class Describe(DeskCase):
    def test_by_hand(self):
        desk = Desk(NET)
        self.assertEqual(desk.describe(**dict.fromkeys(FIELDS, True)),
                         {"staff": 2, "boxed": 1, "posted": 0, "copies": 0, "calls": 0})
        desk = busy_desk()
        self.assertEqual(desk.describe(**dict.fromkeys(FIELDS, True)),
                         {"staff": 2, "boxed": 1, "posted": 2, "copies": 2, "calls": 3})
        desk.change(Open("mill"), Open("ford"), Leave("bert"))
        desk.post("more", "@mill", "anna")
        self.assertEqual(desk.describe(**dict.fromkeys(FIELDS, True)),
                         {"staff": 1, "boxed": 3, "posted": 3, "copies": 3, "calls": 5})

    def test_true_and_false_in_the_callers_order(self):
        desk = busy_desk()
        every = {"staff": 2, "boxed": 1, "posted": 2, "copies": 2, "calls": 3}
        self.assertEqual(desk.describe(), {})
        for many in range(1, 6):
            for names in itertools.permutations(FIELDS, many):
                told = desk.describe(**dict.fromkeys(names, True))
                self.assertEqual(list(told.items()), [(name, every[name]) for name in names])
                wanted = {name: index % 2 == 0 for index, name in enumerate(names)}
                self.assertEqual(list(desk.describe(**wanted).items()), [(name, every[name]) for name in names[::2]])
                self.assertEqual(desk.describe(**dict.fromkeys(names, False)), {})

    def test_the_dictionary_belongs_to_the_caller(self):
        desk = busy_desk()
        told = desk.describe(staff=True)
        told["staff"] = 99
        self.assertEqual(desk.describe(staff=True), {"staff": 2})

    def test_unknown_fields(self):
        desk = busy_desk()
        for name in ("Staff", "staffs", "letters", "name", "tick", "busy", "many", "count"):
            for value in (True, False):
                self.assert_raises(UnknownField, name, desk, lambda: desk.describe(**{name: value}))
                self.assert_raises(UnknownField, name, desk,
                                   lambda: desk.describe(**{"staff": True, name: value, "zzz": True, "calls": False}))


class Busy(DeskCase):
    def test_none_after_every_call(self):
        desk = Desk(NET)
        for call in (lambda: desk.post("news", "bert"), lambda: desk.wait(8), lambda: desk.change(Open("mill")),
                     lambda: desk.holders("news"), lambda: desk.got("news", "anna"), lambda: desk.forecast("news"),
                     lambda: desk.stays("news"), lambda: desk.escape("news"), lambda: desk.describe(staff=True),
                     lambda: desk.undo(), lambda: len(desk), lambda: desk.letters, lambda: desk.net, lambda: desk.tick):
            call()
            self.assertIsNone(desk.busy)

    def test_while_a_change_is_made(self):
        desk, seen = Desk(NET), []

        class Watching(Change):
            def apply(self, net, tick):
                seen.append(desk.busy)
                return net

        desk.change(Watching())
        self.assertEqual((seen, desk.busy), (["change"], None))


class TwoDesks(DeskCase):
    def test_they_do_not_affect_one_another(self):
        one, two = Desk(NET), Desk(NET)
        one.post("news", "bert")
        before = shown(two)
        one.wait(8)
        one.change(Open("mill"), Leave("bert"))
        self.assertEqual(shown(two), before)
        two.post("news", "@port")
        two.wait(4)
        self.assertEqual((one.tick, two.tick, one.letters, two.letters), (8, 4, ("news",), ("news",)))
        self.assertEqual((one.holders("news"), two.holders("news")), (("anna",), ("@port", "anna")))
        one.undo(count=3)
        self.assertEqual((len(one), len(two), one.net, two.net), (0, 2, NET, NET))


if __name__ == "__main__":
    unittest.main()
