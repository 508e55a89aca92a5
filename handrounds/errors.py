"""The errors of the program, one class for each kind of failure."""


class RoundError(ValueError):
    """The base class of all errors of the program."""


class BadName(RoundError):
    """A courier was given a name that is none."""

    def __init__(self, name):
        super().__init__(f"not a name: {name}")
        self.name = name


class BadRound(RoundError):
    """A part of a round, other than a stop, is out of its range."""

    def __init__(self, part):
        super().__init__(f"wrong part of a round: {part}")
        self.part = part


class BadStop(RoundError):
    """The stop of a round at this index is wrong."""

    def __init__(self, index):
        super().__init__(f"wrong stop at index {index}")
        self.index = index


class BadNet(RoundError):
    """A courier or a place has no room in a net under this name."""

    def __init__(self, name):
        super().__init__(f"not fit for the net: {name}")
        self.name = name


class UnknownNode(RoundError):
    """A net has no node of this name."""

    def __init__(self, name):
        super().__init__(f"no such node: {name}")
        self.name = name


class BadChange(RoundError):
    """The change at this index cannot be made."""

    def __init__(self, index):
        super().__init__(f"impossible change at index {index}")
        self.index = index


class BadLetter(RoundError):
    """A letter of this name cannot be posted, or there is none."""

    def __init__(self, name):
        super().__init__(f"wrong letter: {name}")
        self.name = name


class NotInTime(RoundError):
    """A letter is not delivered in time even with all couriers."""

    def __init__(self):
        super().__init__("not delivered in time")


class TooFew(RoundError):
    """There are only so many calls that can be undone."""

    def __init__(self, count):
        super().__init__(f"calls that can be undone: {count}")
        self.count = count


class UnknownField(RoundError):
    """A description has no field of this name."""

    def __init__(self, name):
        super().__init__(f"no such field: {name}")
        self.name = name
