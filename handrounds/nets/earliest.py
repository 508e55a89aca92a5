"""How a letter spreads in a net: when each node first has it, by which chain, and where it is delivered."""

from handrounds.nets.meetings import presence, visits
from handrounds.nets.nets import box_node, check_nodes


def given(net, starts):
    """Return for each node of a start the least tick of its starts, without a place and a giver."""
    check_nodes(net, [node for node, tick in starts])
    first = {}
    for node, tick in starts:
        if node not in first or tick < first[node][0]:
            first[node] = (tick, "", "")
    return first


def spread(net, starts):
    """Return for each node that ever has the letter how it first gets it: (tick, place, giver).

    Place and giver are empty strings if it has it by a start.
    """
    waiting = given(net, starts)
    there = {node: presence(net, node) for node in net.nodes}
    settled = {}
    while len(waiting) > 0:
        # Nobody hands over before having the letter, so the least tick of all that wait cannot become less.
        tick, giver = min([(way[0], node) for node, way in waiting.items()])
        settled[giver] = waiting.pop(giver)
        for taker in net.nodes:
            if taker not in settled:
                met = there[giver].shared(there[taker]).first_from(tick)
                if met is not None and (taker not in waiting or met[0] < waiting[taker][0]):
                    waiting[taker] = (met[0], met[1], giver)
    return settled


def earliest(net, starts):
    """Return the table of the earliest ticks from which the nodes have the letter."""
    found = spread(net, starts)
    return Table.of(tuple([(node, found[node][0] if node in found else None) for node in net.nodes]))


class Table:
    """Pairs of a node and the tick from which it has a letter, or None if it never has it."""

    def __init__(self, *entries):
        self.entries = entries

    @classmethod
    def of(cls, entries):
        """Return the table with a tuple of entries."""
        return cls(*entries)

    def tick_of(self, node):
        """Return the tick of the first entry of the node, or None."""
        for other, tick in self.entries:
            if other == node:
                return tick
        return None

    def holds(self, net, starts):
        """Tell whether this is the table of the net and the starts."""
        return self == earliest(net, starts)

    def __eq__(self, other):
        return isinstance(other, Table) and self.entries == other.entries

    def __len__(self):
        return len([tick for node, tick in self.entries if tick is not None])


def chain(net, starts, node):
    """Return hand-overs that bring the letter to the node as early as possible, or None."""
    found = spread(net, starts)
    check_nodes(net, (node,))
    if node not in found:
        return None
    links = []
    taker = node
    tick, place, giver = found[taker]
    while giver != "":
        links.append((tick, place, giver, taker))
        taker = giver
        tick, place, giver = found[taker]
    return tuple(links[::-1])


def is_there(net, node, tick, place):
    """Tell whether the string is a node that is at the place at the tick."""
    if node in net.hands:
        return net.courier(node).place_at(tick) == place
    return net.has(node) and node == box_node(place)


def is_meeting(net, tick, place, one, two):
    """Tell whether the strings are nodes that meet at the tick and the place."""
    # A courier that is nowhere has an empty place, at which nobody meets.
    return place != "" and one != two and is_there(net, one, tick, place) and is_there(net, two, tick, place)


def is_chain(net, starts, links, node):
    """Tell whether the hand-overs are a chain that leads from the starts to the node."""
    check_nodes(net, [start for start, tick in starts])
    # Who may hand over next, and from which tick on.
    ready = list(starts)
    for tick, place, giver, taker in links:
        may_give = any([holder == giver and since <= tick for holder, since in ready])
        if not may_give or not is_meeting(net, tick, place, giver, taker):
            return False
        ready = [(taker, tick)]
    return node in [holder for holder, since in ready]


def delivery(net, starts, place):
    """Return the earliest tick at which the letter is delivered at the place, or None."""
    found = spread(net, starts)
    made = [visits(net, node, place).first_from(way[0]) for node, way in found.items()]
    return min([visit[0] for visit in made if visit is not None], default=None)
