"""What several tests use: strings, stops, and the words of the document followed tick by tick.

A row is a courier written out: (name, period, stops, start, since).
"""

import functools
import math

from handrounds.change.changes import Close, Join, Leave, Open, Pause
from handrounds.nets.nets import Net
from handrounds.rounds.couriers import Courier
from handrounds.rounds.rounds import Round

NAMES = ("a", "z", "az", "mill", "abcdefghijkl", "zzzzzzzzzzzz", "mnopqrstuvwx")
# The signs just outside of a to z, capital letters, digits, spaces and newlines, in each position.
NO_NAMES = (
    "", "abcdefghijklm", "a" * 60, "`", "{", "A", "Z", "0", "9", " ", "\n", "~", "@", "@mill", "_", "-", ".",
    "Mill", "mIll", "milL", "mill ", " mill", "mi ll", "mill\n", "\nmill", "mi\nll", "mill2", "2mill", "mi-ll",
    "mi_ll", "abcdefghijk{", "`bcdefghijkl", "ABCDEFGHIJKL",
)
EIGHT = tuple((3 * number, "abcdefgh"[number]) for number in range(8))
PLACES = ("mill", "port", "ford", "pass", "moor", "none")
BILLION = 10 ** 9
FAR = 10 ** 30
FARTHEST = 10 ** 32
# The couriers of the document's examples.
ANNA = Courier("anna", Round(6, (0, "mill"), (2, "port")), 1, 0)
BERT = Courier("bert", Round(4, (3, "mill")), 0, 0)
NET = Net((ANNA, BERT), ("port",))


def fixed(tick, period, stops, start, since):
    """The place of a courier at the tick, straight from the words of point 4."""
    found = [place for at, place in stops if tick >= since and (tick - start - at) % period == 0]
    return found[0] if found else ""


def net_of(rows, boxes):
    """The net of the rows and the boxes."""
    return Net(tuple(Courier(name, Round(period, *stops), start, since)
                     for name, period, stops, start, since in rows), tuple(boxes))


def nodes_of(rows, boxes):
    """The nodes of that net, in ascending order."""
    return sorted([row[0] for row in rows] + ["@" + place for place in boxes])


def there(rows, tick, node):
    """The place of a node at the tick, a box being always at its own."""
    if node.startswith("@"):
        return node[1:]
    return fixed(tick, *[row[1:] for row in rows if row[0] == node][0])


def met(rows, tick, one, two):
    """The place at which the two different nodes meet at the tick, straight from point 5; or an empty string."""
    place = there(rows, tick, one)
    return place if place == there(rows, tick, two) and one[0] + two[0] != "@@" else ""


def horizon(rows, boxes, ticks):
    """A tick by which everything that ever happens from these ticks on has happened for the first time."""
    once = math.lcm(*[row[1] for row in rows])
    return max([row[4] for row in rows] + list(ticks), default=0) + (len(rows) + len(boxes) + 1) * once


def handed(rows, boxes, starts):
    """The earliest tick of each node that ever has the letter, by handing over tick by tick (point 6)."""
    nodes = nodes_of(rows, boxes)
    has = {}
    for tick in range(horizon(rows, boxes, [tick for _, tick in starts])):
        for node, since in starts:
            if since == tick:
                has.setdefault(node, tick)
        at = {node: there(rows, tick, node) for node in nodes}
        for place in {at[row[0]] for row in rows} - {""}:
            here = [node for node in nodes if at[node] == place]
            if any(node in has for node in here):
                for node in here:
                    has.setdefault(node, tick)
    return has


def delivered(rows, boxes, starts, place, end):
    """The earliest tick, not behind the end, at which the letter is delivered at the place, straight from point 8."""
    has = set()
    for tick in range(end + 1):
        has |= {node for node, since in starts if since <= tick}
        at = {node: there(rows, tick, node) for node in nodes_of(rows, boxes)}
        for here in set(at.values()) - {""}:
            # Two boxes are never at one place, so with a courier or without one all of these are together.
            if any(at[node] == here for node in has):
                has |= {node for node in at if at[node] == here}
        if any(at[node] == place for node in has):
            return tick
    return None


@functools.lru_cache(maxsize=2 ** 12)
def places(row, since, many):
    """The places of a courier at so many ticks."""
    return tuple(fixed(tick, *row[1:]) for tick in range(since, since + many))


def closed(rows, boxes, nodes):
    """The closed set of the nodes: all that can be reached by meetings, looked for at each tick of a common period."""
    once = math.lcm(*[row[1] for row in rows])
    since = max([row[4] for row in rows], default=0)
    at = {row[0]: places(row, since, once) for row in rows}
    at.update({"@" + place: (place,) * once for place in boxes})
    found, new = set(nodes), set(nodes)
    while new:
        new = {taker for taker in at for giver in new if taker not in found and taker[0] + giver[0] != "@@"
               and any(one == two != "" for one, two in zip(at[taker], at[giver]))}
        found |= new
    return tuple(sorted(found))


def paused(rows, name, tick, ticks):
    """The rows after a pause of the courier, straight from point 10."""
    return [(name, row[1], row[2], row[3] + ticks, max(row[4], tick) + ticks) if row[0] == name else row
            for row in rows]


def escape(rows, boxes, nodes):
    """The least pause that opens the closed set, by trying every number of ticks and every courier (point 11)."""
    inside = set(closed(rows, boxes, nodes))
    for ticks in range(1, max([row[1] for row in rows], default=0) + 1):
        for name, period in sorted((row[0], row[1]) for row in rows):
            if ticks <= period and not inside >= set(closed(paused(rows, name, 0, ticks), boxes, nodes)):
                return (ticks, name)
    return None


def leads(rows, boxes, starts, links, node):
    """Whether the hand-overs are a chain to the node, straight from point 7."""
    nodes = nodes_of(rows, boxes)
    if not links:
        return node in [start for start, _ in starts]
    for tick, place, giver, taker in links:
        if giver not in nodes or taker not in nodes or giver == taker or place == "":
            return False
        if met(rows, tick, giver, taker) != place:
            return False
    pairs = list(zip(links, links[1:]))
    return (any(start == links[0][2] and since <= links[0][0] for start, since in starts)
            and all(after[2] == before[3] and after[0] >= before[0] for before, after in pairs)
            and links[-1][3] == node)


def some_rows(chance, many, latest=9, periods=(1, 2, 3, 4, 5, 6, 8)):
    """So many couriers with short rounds, drawn from a seeded random.Random."""
    rows = []
    for number in range(many):
        period = chance.choice(periods)
        ticks = sorted(chance.sample(range(period), chance.randint(0, min(period, 3))))
        stops = tuple((tick, chance.choice(("mill", "port", "ford", "pass"))) for tick in ticks)
        rows.append(("abcdefghijkl"[number], period, stops, chance.randint(-9, 20), chance.randint(0, latest)))
    chance.shuffle(rows)
    return rows


def some_boxes(chance, many):
    """So many of five places in any order."""
    return chance.sample(("mill", "port", "ford", "pass", "moor"), many)


def some_starts(chance, nodes, many, latest=30):
    """So many starts of these nodes in any order, often several of one node."""
    return tuple((chance.choice(nodes), chance.randint(0, latest)) for _ in range(many))


def stretched(rows, factor, shift=0):
    """The rows with all ticks and periods times the factor, and all starts shifted."""
    return [(name, period * factor, tuple((at * factor, place) for at, place in stops),
             start * factor + shift, since * factor) for name, period, stops, start, since in rows]


def made(rows, boxes, tick, kind, what, ticks):
    """A change, and the rows and the boxes after it, straight from point 10; None for both if it cannot be made."""
    hands = [row[0] for row in rows]
    if kind == "pause":
        return Pause(what, ticks), paused(rows, what, tick, ticks) if what in hands else None, boxes
    if kind == "leave":
        return Leave(what), [row for row in rows if row[0] != what] if what in hands else None, boxes
    if kind == "join":
        late = what[:4] + (max(what[4], tick),)
        fits = what[0] not in hands and len(rows) < 12
        return Join(net_of([what], ()).courier(what[0])), rows + [late] if fits else None, boxes
    if kind == "open":
        fits = what in NAMES + PLACES and what not in boxes and len(boxes) < 12
        return Open(what), rows, boxes + [what] if fits else None
    return Close(what), rows, [place for place in boxes if place != what] if what in boxes else None


def shown(desk):
    """All that a desk shows."""
    told = {"tick": desk.tick, "net": desk.net, "letters": desk.letters, "len": len(desk), "busy": desk.busy,
            "counts": desk.describe(staff=True, boxed=True, posted=True, copies=True, calls=True)}
    told["each"] = {letter: {
        "holders": desk.holders(letter), "forecast": desk.forecast(letter).entries,
        "got": {node: desk.got(letter, node) for node in desk.net.nodes},
        "stays": desk.stays(letter), "escape": desk.escape(letter)} for letter in desk.letters}
    return told
