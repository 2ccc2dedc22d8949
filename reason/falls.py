"""The least sets of told facts whose taking out lets a plain fact fall."""

from reason.parts import least_of, parts_of
from reason.sets import Ground


def falls_of(rules, told, fact):
    """The least sets of told facts by which a plain fact falls, a list of tuples; TooMany, Mixed, Missing, Wide."""
    ground = Ground(rules, told, fact)
    holding = {}
    for part in ground.holding_parts():
        holding[part] = True
    # What is left of the told facts beneath decides: no other told fact is in a way to the fact.
    falling = []
    for part in parts_of(ground.bases):
        if tuple([base for base in ground.bases if base not in part]) not in holding:
            falling.append(part)
    return least_of(falling)


def needed_of(rules, told, fact):
    """The told facts that a plain fact needs, a sorted list; TooMany, Mixed, Missing, Wide."""
    return [part[0] for part in falls_of(rules, told, fact) if len(part) == 1]
