"""Nets: the couriers and the boxes that may meet."""

from handrounds.errors import BadNet, UnknownNode
from handrounds.names import is_name

MOST = 12


def box_node(place):
    """Return the node of the box at the place."""
    return "@" + place


def check_names(names):
    """Raise BadNet for the first one that is not a name, stands there before, or is one too many."""
    for index, name in enumerate(names):
        if index >= MOST or not is_name(name) or name in names[:index]:
            raise BadNet(name)


def check_nodes(net, nodes):
    """Raise UnknownNode for the first one that is not a node of the net."""
    for node in nodes:
        if not net.has(node):
            raise UnknownNode(node)


class Net:
    """Couriers with different names, and boxes at different places."""

    def __init__(self, couriers, boxes):
        names = [courier.name for courier in couriers]
        check_names(names)
        check_names(boxes)
        # Sorted, so that nets that differ in the order alone are equal.
        self._couriers = sorted(couriers, key=lambda courier: courier.name)
        self._hands = tuple(sorted(names))
        self._boxes = tuple(sorted(boxes))
        self._nodes = tuple(sorted(names + [box_node(place) for place in boxes]))

    @property
    def hands(self):
        """The ascending tuple of the names of the couriers."""
        return self._hands

    @property
    def boxes(self):
        """The ascending tuple of the places with boxes."""
        return self._boxes

    @property
    def nodes(self):
        """The ascending tuple of all nodes."""
        return self._nodes

    def courier(self, name):
        """Return the courier with this name."""
        for courier in self._couriers:
            if courier.name == name:
                return courier
        raise UnknownNode(name)

    def has(self, node):
        """Tell whether the string is a node of the net."""
        return node in self._nodes

    def __eq__(self, other):
        return isinstance(other, Net) and self._couriers == other._couriers and self._boxes == other._boxes

    def __len__(self):
        return len(self._nodes)

    def __repr__(self):
        return f"Net({' '.join(self._nodes)})"


def couriers_of(net):
    """Return the tuple of the couriers of the net."""
    return tuple([net.courier(name) for name in net.hands])


def without(net, name):
    """Return the net without the courier; raise UnknownNode if there is none."""
    gone = net.courier(name)
    return Net(tuple([courier for courier in couriers_of(net) if courier != gone]), net.boxes)


def joined(net, newcomer):
    """Return the net with one courier more."""
    return Net(couriers_of(net) + (newcomer,), net.boxes)
