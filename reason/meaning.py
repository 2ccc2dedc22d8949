"""The meaning of rules and told facts."""

from reason.papers import facts_of
from reason.rounds import worked_paper


def meaning_of(rules, told):
    """The facts of the meaning, a sorted list; TooMany where they are more than four hundred."""
    # A worked paper has just the meaning's facts, and a reason is written once a fact: next to nothing more to do.
    return facts_of(worked_paper(rules, told))
