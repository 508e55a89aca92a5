"""In which hands a letter stays for ever, and which least pause lets it out."""

from handrounds.nets.meetings import ever_meet, presence
from handrounds.nets.nets import check_nodes, without
from handrounds.rounds.cycles import Cycle, divisor_and_factor


def closed_set(net, nodes):
    """Return the ascending tuple of all nodes that ever have a letter that these nodes have."""
    check_nodes(net, nodes)
    found = {node: True for node in nodes}
    waiting = list(found)
    while len(waiting) > 0:
        giver = waiting.pop()
        for taker in net.nodes:
            if taker not in found and ever_meet(net, giver, taker):
                found[taker] = True
                waiting.append(taker)
    return tuple(sorted(found))


def closed_sets(net):
    """Return the ascending tuple of all closed sets of single nodes."""
    found = []
    for node in net.nodes:
        if not any([node in other for other in found]):
            found.append(closed_set(net, (node,)))
    return tuple(sorted(found))


def pauses(net, name, node):
    """Return the cycle of the numbers of ticks such that the courier, after a pause of them, meets the node."""
    mine, other = presence(net, name), presence(net, node)
    # Two rounds ever meet if their starts fit together by the common divisor of the periods.
    divisor = divisor_and_factor(mine.period, other.period)[0]
    found = {(there - at) % divisor: True
             for at, place in mine.moments for there, other_place in other.moments if place == other_place}
    return Cycle(divisor, [(ticks, "") for ticks in found], 1)


def opening_pauses(net, nodes, inside, name):
    """Return cycles of all numbers of ticks such that a pause of the courier opens the closed set of the nodes."""
    if name not in inside:
        return [pauses(net, name, node) for node in inside]
    leading_out = [pauses(net, name, node) for node in net.nodes if node not in inside]
    if name in nodes:
        return leading_out
    # The courier has to meet, too, one of those that get the letter without it.
    rest = closed_set(without(net, name), nodes)
    leading_in = [pauses(net, name, node) for node in rest]
    return [cycle.shared(other) for cycle in leading_in for other in leading_out]


def least_pause(net, nodes):
    """Return the least (ticks, name) such that this pause opens the closed set of the nodes, or None."""
    inside = closed_set(net, nodes)
    found = []
    for name in net.hands:
        for cycle in opening_pauses(net, nodes, inside, name):
            least = cycle.first_from(1)
            if least is not None:
                found.append((least[0], name))
    return min(found, default=None)
