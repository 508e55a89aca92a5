"""Rounds: stops that come back after a fixed period."""

from handrounds.errors import BadRound, BadStop
from handrounds.names import is_name

LONGEST_PERIOD = 10 ** 9


def told_stops(stops):
    """Return the stops as text, each one as its tick and its place."""
    return " ".join([f"{tick}:{place}" for tick, place in stops])


class Round:
    """A period and the stops in it, pairs of a tick and a place."""

    MOST_STOPS = 8

    def __init__(self, period, *stops):
        if not 1 <= period <= LONGEST_PERIOD:
            raise BadRound("period")
        before = -1
        for index, (tick, place) in enumerate(stops):
            if index >= self.MOST_STOPS or not before < tick < period or not is_name(place):
                raise BadStop(index)
            before = tick
        self.period = period
        self.stops = stops

    @classmethod
    def of(cls, period, stops):
        """Return the round with a tuple of stops."""
        return cls(period, *stops)

    @property
    def places(self):
        """The ascending tuple of the different places of the stops."""
        return tuple(sorted({place for tick, place in self.stops}))

    def __eq__(self, other):
        return isinstance(other, Round) and self.period == other.period and self.stops == other.stops

    def __len__(self):
        return len(self.stops)

    def __repr__(self):
        if len(self.stops) == 0:
            return f"Round({self.period})"
        return f"Round({self.period}: {told_stops(self.stops)})"
