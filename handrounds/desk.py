"""The desk: a net that changes, with letters and a time, kept up to date from call to call."""

from handrounds.errors import BadChange, BadLetter, RoundError, TooFew, UnknownField
from handrounds.names import is_name
from handrounds.nets.closed import closed_set, least_pause
from handrounds.nets.earliest import earliest
from handrounds.nets.nets import Net, check_nodes


def forecast_of(net, held, tick):
    """Return the table of the net, all holders having the letter at the tick."""
    return earliest(net, tuple([(node, tick) for node in held]))


def handed_on(net, held, tick, end):
    """Return the holders, with the ticks from which they have the letter, after all hand-overs before the end."""
    after = {}
    for node, first in forecast_of(net, held, tick).entries:
        if node in held:
            after[node] = held[node]
        elif first is not None and first < end:
            after[node] = first
    return after


def left_over(net, held):
    """Return the holders that are nodes of the net."""
    return {node: since for node, since in held.items() if net.has(node)}


class Running:
    """Notes at a desk which of its methods is running, until that one ends in whatever way."""

    def __init__(self, desk, method):
        self.desk = desk
        self.method = method

    def __enter__(self):
        desk = self.desk
        desk.busy = self.method

    def __exit__(self, kind, value, trace):
        desk = self.desk
        desk.busy = None


class Desk:
    """A net, a time, and for each letter its holders with the ticks from which they have it."""

    def __init__(self, net):
        self.busy = None
        self._tick = 0
        self._net = net
        # Neither this dictionary nor one in it is ever changed, only replaced: the past shares them.
        self._letters = {}
        self._past = []

    @classmethod
    def plain(cls, *couriers):
        """Return a desk with the net of these couriers without boxes."""
        return cls(Net(couriers, ()))

    @property
    def tick(self):
        """The time: everything that happens before it has happened."""
        return self._tick

    @property
    def net(self):
        """The net as it is now."""
        return self._net

    @property
    def letters(self):
        """The ascending tuple of the names of all letters."""
        return tuple(sorted(self._letters))

    def _go_on(self, tick, net, letters):
        """Make a new present, from which `undo` comes back to this one."""
        self._past.append((self._tick, self._net, self._letters))
        self._tick, self._net, self._letters = tick, net, letters

    def _held(self, letter):
        """Return the holders of the letter, with the ticks from which they have it."""
        if letter not in self._letters:
            raise BadLetter(letter)
        return self._letters[letter]

    def post(self, letter, *nodes):
        """Post a new letter, which these nodes have from now on, and return its holders."""
        with Running(self, "post"):
            if not is_name(letter) or letter in self._letters:
                raise BadLetter(letter)
            check_nodes(self._net, nodes)
            held = {node: self._tick for node in nodes}
            self._go_on(self._tick, self._net, {**self._letters, letter: held})
            return tuple(sorted(held))

    def wait(self, ticks):
        """Let so many ticks pass and return the time then."""
        with Running(self, "wait"):
            end = self._tick + ticks
            letters = {letter: handed_on(self._net, held, self._tick, end) for letter, held in self._letters.items()}
            self._go_on(end, self._net, letters)
            return end

    def change(self, *changes):
        """Make all changes at the present time, one after another, or none of them; return the net then."""
        with Running(self, "change"):
            net, letters = self._net, self._letters
            for index, change in enumerate(changes):
                try:
                    net = change.apply(net, self._tick)
                except RoundError:
                    raise BadChange(index) from None
                # After each change, as a node that leaves and comes back has lost its letters.
                letters = {letter: left_over(net, held) for letter, held in letters.items()}
            self._go_on(self._tick, net, letters)
            return net

    def holders(self, letter):
        """Return the ascending tuple of the nodes that have the letter now."""
        with Running(self, "holders"):
            return tuple(sorted(self._held(letter)))

    def got(self, letter, node):
        """Return the tick from which the node has the letter, or None."""
        with Running(self, "got"):
            held = self._held(letter)
            check_nodes(self._net, (node,))
            return held.get(node)

    def forecast(self, letter):
        """Return the table of the letter, as long as the net does not change."""
        with Running(self, "forecast"):
            return forecast_of(self._net, self._held(letter), self._tick)

    def stays(self, letter):
        """Return the closed set of the holders of the letter."""
        with Running(self, "stays"):
            return closed_set(self._net, tuple(sorted(self._held(letter))))

    def escape(self, letter):
        """Return the least pause that lets the letter out of its closed set, or None."""
        with Running(self, "escape"):
            return least_pause(self._net, tuple(sorted(self._held(letter))))

    def undo(self, *, count=1):
        """Go back before the last so many calls of `post`, `wait` and `change`; return the time then."""
        with Running(self, "undo"):
            left = len(self._past) - count
            if left < 0:
                raise TooFew(len(self._past))
            if count > 0:
                self._tick, self._net, self._letters = self._past[left]
                del self._past[left:]
            return self._tick

    def describe(self, **wanted):
        """Return the wanted numbers, in the order of the keywords."""
        with Running(self, "describe"):
            known = {"staff": len(self._net.hands), "boxed": len(self._net.boxes), "posted": len(self._letters),
                     "copies": sum([len(held) for held in self._letters.values()]), "calls": len(self._past)}
            for name in wanted:
                if name not in known:
                    raise UnknownField(name)
            return {name: known[name] for name, asked in wanted.items() if asked}

    def __len__(self):
        return len(self._past)
