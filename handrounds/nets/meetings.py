"""Meetings: when and where two nodes of a net meet."""

from handrounds.nets.nets import check_nodes
from handrounds.rounds.cycles import always_at


def presence(net, node):
    """Return the cycle of the ticks and places at which the node is there to be met."""
    if node in net.hands:
        return net.courier(node).cycle()
    return always_at(node[1:])


def visits(net, node, place):
    """Return the cycle of the ticks at which the node delivers at the place what it has."""
    return presence(net, node).shared(always_at(place))


def meeting_cycle(net, one, two):
    """Return the cycle of the meetings of two nodes."""
    check_nodes(net, (one, two))
    return presence(net, one).shared(presence(net, two))


def next_meeting(net, one, two, tick):
    """Return the first (tick, place) from the tick on at which the nodes meet, or None."""
    return meeting_cycle(net, one, two).first_from(tick)


def last_meeting(net, one, two, tick):
    """Return the last (tick, place) up to the tick at which the nodes met, or None."""
    return meeting_cycle(net, one, two).last_until(tick)


def meetings(net, one, two, tick, end):
    """Yield each (tick, place) from the tick on and before the end at which the nodes meet."""
    cycle = meeting_cycle(net, one, two)
    met = cycle.first_from(tick)
    while met is not None and met[0] < end:
        yield met
        met = cycle.first_from(met[0] + 1)


def ever_meet(net, one, two):
    """Tell whether the nodes ever meet."""
    return len(meeting_cycle(net, one, two).moments) > 0
