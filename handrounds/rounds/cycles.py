"""Cycles: ticks and places that come back after a fixed period."""

# What is always at a place is there before every tick that anybody asks about.
LONG_AGO = -(10 ** 40)


def divisor_and_factor(one, two):
    """Return the greatest common divisor, and a factor by which one gives it, but for multiples of two."""
    left, right = one, two
    factor, following = 1, 0
    while right > 0:
        times = left // right
        left, right = right, left - times * right
        factor, following = following, factor - times * following
    return left, factor


class Cycle:
    """Moments, pairs of a tick and a place, that come back after each period, from a tick on."""

    def __init__(self, period, moments, since):
        self.period = period
        self.moments = moments
        self.since = since

    def first_from(self, tick):
        """Return the first (tick, place) from the tick on, or None."""
        first = max(tick, self.since)
        # Each moment comes back within one period, so its next tick is found without counting.
        return min([(first + (at - first) % self.period, place) for at, place in self.moments], default=None)

    def last_until(self, tick):
        """Return the last (tick, place) up to the tick, or None."""
        latest = max([(tick - (tick - at) % self.period, place) for at, place in self.moments], default=None)
        # If the latest of all is too early, all others are, too.
        if latest is None or latest[0] < self.since:
            return None
        return latest

    def shared(self, other):
        """Return the cycle of the ticks and places that both cycles have."""
        divisor, factor = divisor_and_factor(self.period, other.period)
        rest = other.period // divisor
        found = []
        for at, place in self.moments:
            for there, other_place in other.moments:
                if place == other_place and (there - at) % divisor == 0:
                    # So many periods after `at` the other one is there for the first time (Chinese remainders).
                    turns = (there - at) // divisor * factor % rest
                    found.append((at + turns * self.period, place))
        return Cycle(self.period * rest, found, max(self.since, other.since))


def always_at(place):
    """Return the cycle of what is at the place at every tick."""
    return Cycle(1, [(0, place)], LONG_AGO)
