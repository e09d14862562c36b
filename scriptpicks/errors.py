"""The errors of the package. Each one keeps what it was constructed with."""


class PickError(ValueError):
    """Every error that the package raises is one of its subclasses."""


class Wrong(PickError):
    """An argument is not as described; place is its number in the signature."""

    def __init__(self, place):
        self.place = place


class NoRow(PickError):
    """There is no row with this index."""

    def __init__(self, at):
        self.at = at


class BadStep(PickError):
    """A "close" stands where it may not stand."""

    def __init__(self, index):
        self.index = index


class NoStep(PickError):
    """There is no step with this index."""

    def __init__(self, index):
        self.index = index


class NotPicked(PickError):
    """A single pick of a step picks no row; number is the number of the pick."""

    def __init__(self, number):
        self.number = number


class Stuck(PickError):
    """The rows that a step picked do not fit it."""


class Stopped(PickError):
    """A run stops ahead of the step with this index."""

    def __init__(self, index):
        self.index = index


class Closed(PickError):
    """Nothing can be done behind a "close"."""


class BadEdit(PickError):
    """The edit with this index cannot be done."""

    def __init__(self, index):
        self.index = index


class Unlike(PickError):
    """Two scripts have different starts."""


class HasPlace(PickError):
    """The step with this index has a pick by "at"."""

    def __init__(self, index):
        self.index = index


class TooMany(PickError):
    """There are more than most."""

    def __init__(self, most):
        self.most = most


class Nothing(PickError):
    """There is nothing to undo, or to do again."""


class NoDeed(PickError):
    """A value has not the form of a deed."""


class Full(PickError):
    """As many deeds stand as the limit allows."""

    def __init__(self, limit):
        self.limit = limit


class Refused(PickError):
    """This deed cannot be done."""

    def __init__(self, deed):
        self.deed = deed


class NoEntry(PickError):
    """The log has not so many entries."""

    def __init__(self, many):
        self.many = many


class NoText(PickError):
    """Nothing has this text."""


class NoCommand(PickError):
    """A value is no line that can be executed."""
