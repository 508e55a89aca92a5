"""Changes of a net, each made at a tick before anybody meets, and the difference that one makes to a letter."""

from handrounds.errors import UnknownNode
from handrounds.nets.earliest import earliest
from handrounds.nets.nets import Net, box_node, check_nodes, couriers_of, joined, without
from handrounds.rounds.couriers import Courier


class Change:
    """The base class of the changes, which changes nothing."""

    def told(self):
        """Return the change in words."""
        return "change"

    def apply(self, net, tick):
        """Return the net after the change at the tick."""
        return net

    def __eq__(self, other):
        return isinstance(other, Change) and type(other) is type(self)


class Pause(Change):
    """A courier stands still for a number of ticks."""

    def __init__(self, name, ticks):
        self.name = name
        self.ticks = ticks

    def told(self):
        """Return the change in words."""
        return super().told() + f": pause {self.name} for {self.ticks}"

    def apply(self, net, tick):
        """Return the net after the change at the tick."""
        courier = net.courier(self.name)
        return joined(without(net, self.name), courier.paused(tick, self.ticks))

    def __eq__(self, other):
        return (isinstance(other, Pause) and type(other) is type(self) and self.name == other.name
                and self.ticks == other.ticks)


class Leave(Change):
    """A courier leaves the net."""

    def __init__(self, name):
        self.name = name

    def told(self):
        """Return the change in words."""
        return super().told() + f": leave {self.name}"

    def apply(self, net, tick):
        """Return the net after the change at the tick."""
        return without(net, self.name)

    def __eq__(self, other):
        return isinstance(other, Leave) and type(other) is type(self) and self.name == other.name


class Join(Change):
    """A courier joins the net."""

    def __init__(self, newcomer):
        self.newcomer = newcomer

    def told(self):
        """Return the change in words."""
        return super().told() + f": join {self.newcomer.name}"

    def apply(self, net, tick):
        """Return the net after the change at the tick."""
        newcomer = self.newcomer
        since = max(newcomer.since, tick)
        return joined(net, Courier(newcomer.name, newcomer.way, newcomer.start, since))

    def __eq__(self, other):
        return isinstance(other, Join) and type(other) is type(self) and self.newcomer == other.newcomer


class Open(Change):
    """A box without letters is added."""

    def __init__(self, place):
        self.place = place

    def told(self):
        """Return the change in words."""
        return super().told() + f": open {self.place}"

    def apply(self, net, tick):
        """Return the net after the change at the tick."""
        return Net(couriers_of(net), net.boxes + (self.place,))

    def __eq__(self, other):
        return isinstance(other, Open) and type(other) is type(self) and self.place == other.place


class Close(Change):
    """A box is removed, with all its letters."""

    def __init__(self, place):
        self.place = place

    def told(self):
        """Return the change in words."""
        return super().told() + f": close {self.place}"

    def apply(self, net, tick):
        """Return the net after the change at the tick."""
        check_nodes(net, (box_node(self.place),))
        return Net(couriers_of(net), tuple([place for place in net.boxes if place != self.place]))

    def __eq__(self, other):
        return isinstance(other, Close) and type(other) is type(self) and self.place == other.place


class Difference:
    """What a change makes earlier, later or impossible, in triples (node, tick before, tick after)."""

    def __init__(self, earlier, later, lost, gained):
        self.earlier = earlier
        self.later = later
        self.lost = lost
        self.gained = gained

    @property
    def is_nothing(self):
        """True if the change makes no difference."""
        return self.earlier == () and self.later == () and self.lost == () and self.gained == ()


def first_ticks(net, tick, starts):
    """Return the tick of each node of the net that ever has the letter, the starts being taken at the tick or later."""
    kept = tuple([(node, max(since, tick)) for node, since in starts if net.has(node)])
    return {node: first for node, first in earliest(net, kept).entries if first is not None}


def difference(net, change, tick, starts):
    """Return the difference that the change at the tick makes to a letter with these starts."""
    changed = change.apply(net, tick)
    for node, since in starts:
        if not net.has(node) and not changed.has(node):
            raise UnknownNode(node)
    before, after = first_ticks(net, tick, starts), first_ticks(changed, tick, starts)
    both = [(node, before[node], after[node]) for node in sorted(before) if node in after]
    return Difference(
        tuple([row for row in both if row[2] < row[1]]),
        tuple([row for row in both if row[2] > row[1]]),
        tuple([(node, before[node], None) for node in sorted(before) if node not in after]),
        tuple([(node, None, after[node]) for node in sorted(after) if node not in before]))
