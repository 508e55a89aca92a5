"""How late a letter may be given to arrive in time, and who is needed for it."""

from handrounds.errors import NotInTime
from handrounds.nets.earliest import delivery
from handrounds.nets.meetings import presence, visits
from handrounds.nets.nets import check_nodes, without


def last_chances(net, place, deadline):
    """Return for each node from which the letter can be delivered in time the greatest tick for this."""
    there = {node: presence(net, node) for node in net.nodes}
    last = {node: visits(net, node, place).last_until(deadline) for node in net.nodes}
    waiting = {node: visit[0] for node, visit in last.items() if visit is not None}
    settled = {}
    while len(waiting) > 0:
        # Who hands over does so by the taker's last chance, so the greatest of all that wait cannot grow.
        tick, taker = max([(chance, node) for node, chance in waiting.items()])
        settled[taker] = waiting.pop(taker)
        for giver in net.nodes:
            if giver not in settled:
                met = there[giver].shared(there[taker]).last_until(tick)
                if met is not None and (giver not in waiting or met[0] > waiting[giver]):
                    waiting[giver] = met[0]
    return settled


def latest_start(net, node, place, deadline):
    """Return the greatest tick, 0 or greater, from which the node delivers at the place in time, or None."""
    check_nodes(net, (node,))
    tick = last_chances(net, place, deadline).get(node, -1)
    return tick if tick >= 0 else None


def in_time(net, starts, place, deadline):
    """Tell whether the letter is delivered at the place at the deadline or before."""
    tick = delivery(net, starts, place)
    return tick is not None and tick <= deadline


def needed_hands(net, starts, place, deadline):
    """Return the names of the couriers without whom the letter would not be delivered in time."""
    if not in_time(net, starts, place, deadline):
        raise NotInTime()
    needed = []
    for name in net.hands:
        kept = tuple([start for start in starts if start[0] != name])
        if not in_time(without(net, name), kept, place, deadline):
            needed.append(name)
    return tuple(needed)
