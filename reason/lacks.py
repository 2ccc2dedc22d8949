"""What each rule lacks to make a fact that is not there."""

from reason.errors import Present
from reason.groups import gathered
from reason.joins import bindings_by_steps, both_of, bound_body
from reason.matching import met_by
from reason.rules import is_group


def head_binding(rule, fact):
    """The binding by which a rule's head is a fact, of a group rule all but its last term, or None."""
    if is_group(rule):
        return met_by(rule[1][:-1], fact[1][:-1], {})
    return met_by(rule[1], fact[1], {})


def lack_of(rule, facts, fact):
    """What a rule for a fact's predicate lacks."""
    start = head_binding(rule, fact)
    if start is None:
        return ("head",)
    steps = bindings_by_steps(bound_body(rule[2], start), facts)
    for number in range(len(rule[2])):
        if steps[number + 1] == []:
            return ("literal", number)
    # By a meaning no other rule comes here: where its whole body is met, its head is there.
    last = gathered(rule[1][-1], [both_of(start, binding) for binding in steps[-1]])
    return ("nothing",) if last is None else ("other", last)


def lacks_of(rules, facts, fact):
    """What each rule for a fact's predicate lacks, a list of tuples (number, lack) by numbers; Present."""
    if fact in facts:
        raise Present("this fact is there")
    lacks = []
    for number in sorted(rules):
        rule = rules[number]
        if rule[0] == fact[0] and len(rule[1]) == len(fact[1]):
            lacks.append((number, lack_of(rule, facts, fact)))
    return lacks
