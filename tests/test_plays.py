"""Plays at desks: drawn calls, compared with handing over tick by tick, taken back and played again."""

import copy
import random
import unittest

from handrounds.desk import Desk
from handrounds.errors import RoundError
from samples import (
    BILLION, NAMES, PLACES, closed, escape, handed, made, net_of, nodes_of, shown, some_boxes, some_rows, there)

LETTERS = ("news", "note", "bill", "card")
# Periods with small common multiples, so that following them tick by tick ends soon.
SHORT = (1, 2, 3, 4, 6, 12)


class Model:
    """What the document says of a desk, followed tick by tick; errors are returned as (kind, what)."""

    def __init__(self, rows, boxes):
        self.now = {"rows": rows, "boxes": boxes, "tick": 0, "letters": {}}
        self.past = []

    def nodes(self):
        return nodes_of(self.now["rows"], self.now["boxes"])

    def keep(self):
        self.past.append(copy.deepcopy(self.now))

    def post(self, letter, *nodes):
        if letter not in LETTERS + NAMES or letter in self.now["letters"]:
            return ("BadLetter", letter)
        for node in nodes:
            if node not in self.nodes():
                return ("UnknownNode", node)
        self.keep()
        self.now["letters"][letter] = {node: self.now["tick"] for node in nodes}
        return tuple(sorted(set(nodes)))

    def wait(self, ticks):
        self.keep()
        for tick in range(self.now["tick"], self.now["tick"] + ticks):
            at = {node: there(self.now["rows"], tick, node) for node in self.nodes()}
            for held in self.now["letters"].values():
                full = {at[node] for node in held} - {""}
                # At a place without a courier, there is one box at most.
                for node in self.nodes():
                    if at[node] in full:
                        held.setdefault(node, tick)
        self.now["tick"] += ticks
        return self.now["tick"]

    def change(self, *parts):
        after = copy.deepcopy(self.now)
        for index, part in enumerate(parts):
            _, rows, boxes = made(after["rows"], after["boxes"], after["tick"], *part)
            if rows is None or boxes is None:
                return ("BadChange", index)
            after.update(rows=rows, boxes=boxes)
            for held in after["letters"].values():
                for node in set(held) - set(nodes_of(rows, boxes)):
                    del held[node]
        self.keep()
        self.now = after
        return net_of(after["rows"], after["boxes"])

    def undo(self, count):
        if count > len(self.past):
            return ("TooFew", len(self.past))
        if count:
            self.now = self.past[-count]
            del self.past[-count:]
        return self.now["tick"]

    def shown(self):
        """The same as `shown` tells of a desk."""
        rows, boxes, tick, letters = (self.now[name] for name in ("rows", "boxes", "tick", "letters"))
        each = {}
        for letter, held in letters.items():
            has = handed(rows, boxes, [(node, tick) for node in held])
            each[letter] = {
                "holders": tuple(sorted(held)), "got": {node: held.get(node) for node in self.nodes()},
                "forecast": tuple((node, has.get(node)) for node in self.nodes()),
                "stays": closed(rows, boxes, held), "escape": escape(rows, boxes, held) if held else None}
        return {"tick": tick, "net": net_of(rows, boxes), "letters": tuple(sorted(letters)), "len": len(self.past),
                "busy": None, "each": each,
                "counts": {"staff": len(rows), "boxed": len(boxes), "posted": len(letters),
                           "copies": sum(len(held) for held in letters.values()), "calls": len(self.past)}}


def some_part(chance, rows):
    """A drawn change, written out; it often cannot be made."""
    kind = chance.choice(("pause", "pause", "leave", "join", "open", "close"))
    name = chance.choice([row[0] for row in rows] + ["late"])
    late = (name, chance.choice(SHORT), ((0, chance.choice(PLACES[:3])),), chance.randint(0, 9), chance.randint(0, 30))
    what = {"pause": name, "leave": name, "join": late}.get(kind) or chance.choice(PLACES[:4])
    return kind, what, chance.randint(1, 9)


def some_call(chance, rows, nodes):
    """A drawn call, written out: the name of the method and its arguments."""
    kind = chance.choice(("post", "wait", "wait", "change", "change", "undo"))
    if kind == "post":
        return kind, chance.choice(LETTERS), *(chance.choice(nodes + ["@none"] * (chance.random() < 0.4))
                                               for _ in range(chance.randint(0, 2) if nodes else 0))
    if kind == "wait":
        return kind, chance.choice((0, 1, 1, 2, 5, 10))
    if kind == "change":
        return kind, *(some_part(chance, rows) for _ in range(chance.choice((0, 1, 1, 1, 2, 3))))
    return kind, chance.choice((0, 1, 1, 2, 3, 9))


def played(desk, call):
    """What a desk answers to a call that is written out; an error as (kind, what)."""
    kind, *rest = call
    try:
        if kind == "change":
            return desk.change(*(made([], [], 0, *part)[0] for part in rest))
        if kind == "undo":
            return desk.undo(count=rest[0])
        return getattr(desk, kind)(*rest)
    except RoundError as wrong:
        return type(wrong).__name__, *vars(wrong).values()


def some_play(seed, many, periods=SHORT):
    """Drawn rows and boxes, and so many calls with what a model answers to each and shows after it."""
    chance = random.Random(seed)
    rows, boxes = some_rows(chance, chance.randint(1, 3), 9, periods), some_boxes(chance, chance.randint(0, 2))
    model, calls = Model(rows, boxes), []
    for _ in range(many):
        call = some_call(chance, model.now["rows"] or rows, model.nodes())
        answer = getattr(model, call[0])(*call[1:])
        calls.append((call, answer, model.shown()))
    return rows, boxes, calls


class TickByTick(unittest.TestCase):
    def test_drawn_plays(self):
        seen = {}
        for seed in range(60):
            rows, boxes, calls = some_play(seed, 12)
            desk = Desk(net_of(rows, boxes))
            for call, answer, after in calls:
                self.assertEqual(played(desk, call), answer, (seed, rows, boxes, call))
                self.assertEqual(shown(desk), after, (seed, rows, boxes, call))
                kind = answer[0] if isinstance(answer, tuple) and answer and answer[0][0].isupper() else call[0]
                seen[kind] = seen.get(kind, 0) + 1
        self.assertEqual(set(seen), {"post", "wait", "change", "undo", "BadLetter", "UnknownNode", "BadChange", "TooFew"})
        self.assertGreater(min(seen.values()), 3, seen)


class Promises(unittest.TestCase):
    """What holds over the whole program."""

    PLAYS = [(rows, boxes, [call for call, _, _ in calls]) for rows, boxes, calls in
             (some_play(seed, 10) for seed in range(100, 112))]

    def test_undoing_call_by_call_and_playing_again(self):
        for rows, boxes, calls in self.PLAYS:
            desk, states, done = Desk(net_of(rows, boxes)), [], []
            for call in calls:
                before = shown(desk)
                if call[0] != "undo" and (played(desk, call), len(desk))[1] > len(states):
                    states.append(before)
                    done.append(call)
            last = shown(desk)
            for before in states[::-1]:
                self.assertEqual(desk.undo(), before["tick"])
                self.assertEqual(shown(desk), before)
            for call, before in zip(done, states):
                self.assertEqual(shown(desk), before)
                played(desk, call)
            self.assertEqual(shown(desk), last)
            desk.undo(count=len(done))
            self.assertEqual(shown(desk), shown(Desk(net_of(rows, boxes))))

    def test_waiting_in_two_parts_and_at_once(self):
        chance = random.Random(81)
        for rows, boxes, calls in self.PLAYS:
            one, two = Desk(net_of(rows, boxes)), Desk(net_of(rows, boxes))
            for call in calls:
                if call[0] == "undo":
                    continue
                played(one, call)
                if call[0] == "wait":
                    first = chance.randint(0, call[1])
                    played(two, ("wait", first))
                    played(two, ("wait", call[1] - first))
                else:
                    played(two, call)
                told, other = shown(one), shown(two)
                for name in ("tick", "net", "letters", "each"):
                    self.assertEqual(told[name], other[name])

    def test_waiting_long_in_parts(self):
        for rows, boxes, calls in self.PLAYS:
            one, two = Desk(net_of(rows, boxes)), Desk(net_of(rows, boxes))
            for desk, waits in ((one, (BILLION,)), (two, (7, 0, 1, BILLION // 3, 5, BILLION - BILLION // 3 - 13))):
                desk.post("news", desk.net.nodes[0])
                for ticks in waits:
                    desk.wait(ticks)
            self.assertEqual((shown(one)["each"], one.tick), (shown(two)["each"], two.tick))

    def test_many_desks_at_once(self):
        desks = [Desk(net_of(rows, boxes)) for rows, boxes, _ in self.PLAYS]
        told = [[] for _ in desks]
        for turn in range(10):
            for desk, answers, (_, _, calls) in zip(desks, told, self.PLAYS):
                answers.append((played(desk, calls[turn]), shown(desk)))
        for answers, (rows, boxes, calls) in zip(told, self.PLAYS):
            desk = Desk(net_of(rows, boxes))
            self.assertEqual([(played(desk, call), shown(desk)) for call in calls], answers)

    def test_asking_changes_nothing(self):
        for rows, boxes, calls in self.PLAYS:
            desk = Desk(net_of(rows, boxes))
            for call in calls:
                played(desk, call)
            told = shown(desk)
            self.assertEqual([shown(desk) for _ in range(3)], [told] * 3)

    def test_the_net_that_a_desk_was_given_stays(self):
        for rows, boxes, calls in self.PLAYS:
            net = net_of(rows, boxes)
            desk = Desk(net)
            for call in calls:
                played(desk, call)
            self.assertEqual(net, net_of(rows, boxes))


if __name__ == "__main__":
    unittest.main()
