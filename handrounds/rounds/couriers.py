"""Couriers: who goes round a round, counted from which tick, and since when."""

from handrounds.errors import BadName
from handrounds.names import is_name
from handrounds.rounds.cycles import Cycle


class Courier:
    """A courier that goes round a round for ever."""

    def __init__(self, name, way, start, since):
        if not is_name(name):
            raise BadName(name)
        self.name = name
        self.way = way
        self.start = start
        self.since = since

    def place_at(self, tick):
        """Return the place at which the courier is at the tick, or an empty string."""
        if tick < self.since:
            return ""
        for at, place in self.way.stops:
            if (tick - self.start - at) % self.way.period == 0:
                return place
        return ""

    def cycle(self):
        """Return the cycle of the ticks and places of the courier's stops."""
        stops = [(self.start + at, place) for at, place in self.way.stops]
        return Cycle(self.way.period, stops, self.since)

    def next_stop(self, tick):
        """Return the first (tick, place) of the courier from the tick on, or None."""
        return self.cycle().first_from(tick)

    def last_stop(self, tick):
        """Return the last (tick, place) of the courier up to the tick, or None."""
        return self.cycle().last_until(tick)

    def paused(self, tick, ticks):
        """Return the courier after a pause of so many ticks, made at the tick."""
        return Courier(self.name, self.way, self.start + ticks, max(self.since, tick) + ticks)

    def __eq__(self, other):
        return (isinstance(other, Courier) and self.name == other.name and self.way == other.way
                and self.start == other.start and self.since == other.since)

    def __repr__(self):
        return f"Courier({self.name} from {self.start} since {self.since})"
