"""The refusals of the program, a class for each."""


class ReasonError(ValueError):
    """Any refusal."""


class NoName(ReasonError):
    """What is handed in is no name."""


class NoFact(ReasonError):
    """What is handed in is no fact."""


class NoRule(ReasonError):
    """What is handed in is no rule."""


class Unlike(ReasonError):
    """A predicate would have two numbers of places."""


class Unsafe(ReasonError):
    """A rule is not safe."""


class Ring(ReasonError):
    """Rules have no layers; the value `ring` is a ring of theirs, a tuple of predicates."""

    def __init__(self, ring):
        self.ring = ring


class TooMany(ReasonError):
    """A meaning has too many facts."""


class NoPlan(ReasonError):
    """What is handed in is no plan of the body."""


class Twice(ReasonError):
    """What is put in is there already."""


class Missing(ReasonError):
    """What is asked for or taken out is not there."""


class NoText(ReasonError):
    """A text is none of a fact, a rule, a predicate or a place."""


class Mixed(ReasonError):
    """What must be plain, or bare, is not."""


class Wide(ReasonError):
    """There are too many facts to go through their parts."""


class Present(ReasonError):
    """What should lack is there."""


class NoMeasure(ReasonError):
    """What is handed in is no measure."""


class NoRow(ReasonError):
    """What is handed in is none of the desk's rows."""
