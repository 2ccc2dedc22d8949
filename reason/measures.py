"""Measures: values that are joined and met."""

from reason.errors import NoMeasure
from reason.terms import is_whole


class Measure:
    """Values from nought, which none gives, to top, which meets nothing.

    They are joined and met by their size, unless a measure of another kind says otherwise.
    """

    def __init__(self, nought, top):
        self.nought = nought
        self.top = top

    def has(self, thing):
        """Whether anything is a value of the measure: joined with top, a value brings nothing to it."""
        return is_whole(thing) and thing >= self.nought and self.either(thing, self.top) == self.top

    def either(self, one, other):
        """Two values joined."""
        return max(one, other)

    def both(self, one, other):
        """Two values met."""
        return min(one, other)

    def all_joined(self, values):
        """All of a list of values joined; nought where there is none."""
        joined = self.nought
        for value in values:
            joined = self.either(joined, value)
        return joined

    def all_met(self, values):
        """Top met with all of a list of values."""
        met = self.top
        for value in values:
            met = self.both(met, value)
        return met


class Bits(Measure):
    """Whole numbers that have no bit that top doesn't have."""

    def __init__(self, top):
        Measure.__init__(self, 0, top)

    def either(self, one, other):
        return one | other

    def both(self, one, other):
        return one & other


class Chain(Measure):
    """Whole numbers from 0 to top."""

    def __init__(self, top):
        Measure.__init__(self, 0, top)


class Shares(Measure):
    """Whole numbers from 1 on that divide top."""

    def __init__(self, top):
        Measure.__init__(self, 1, top)

    def either(self, one, other):
        return one // self.both(one, other) * other

    def both(self, one, other):
        while other != 0:
            rest = one % other
            one = other
            other = rest
        return one


def measure_of(thing):
    """The measure that a tuple tells; NoMeasure where anything else is handed in."""
    if not isinstance(thing, tuple) or len(thing) != 2 or not isinstance(thing[0], str) or not is_whole(thing[1]):
        raise NoMeasure("a measure is a tuple of its kind and its top")
    if thing[1] >= 1:
        if thing[0] == "bits":
            return Bits(thing[1])
        if thing[0] == "chain":
            return Chain(thing[1])
        if thing[0] == "shares":
            return Shares(thing[1])
    raise NoMeasure("a measure is bits, a chain or shares, its top 1 or more")
