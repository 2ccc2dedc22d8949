"""Instances: by which rules, and of which used facts, a fact is made."""

from reason.groups import gathered, group_facts
from reason.joins import bindings_from, found_bindings
from reason.matching import holds_by, met_by, replaced_by
from reason.rules import is_group
from reason.terms import fact_key, in_order


def yes_literals(body):
    return [literal for literal in body if literal[0] == "yes"]


def head_of(rule, binding):
    """The fact that a rule's head is by a binding."""
    return (rule[0], replaced_by(rule[1], binding))


def used_by(body, binding):
    """The facts that a body's yes literals are by a binding, a tuple in their order."""
    return tuple([(literal[1], replaced_by(literal[2], binding)) for literal in yes_literals(body)])


def used_key(used):
    return [fact_key(fact) for fact in used]


def is_given(rule, facts, fact):
    """Whether a group rule gives a fact: only the bindings of the fact's own group are looked for."""
    start = met_by(rule[1][:-1], fact[1][:-1], {})
    if fact[0] != rule[0] or start is None:
        return False
    bindings = bindings_from(start, rule[2], facts)
    return bindings != [] and fact[1][-1:] == (gathered(rule[1][-1], bindings),)


def uses_of(rule, facts, fact):
    """The used facts of a fact's instances by one rule, a sorted list of tuples."""
    if is_group(rule):
        return [()] if is_given(rule, facts, fact) else []
    start = met_by(rule[1], fact[1], {})
    if fact[0] != rule[0] or start is None:
        return []
    uses = [used_by(rule[2], binding) for binding in bindings_from(start, rule[2], facts)]
    return sorted(uses, key=used_key)


def instances_of(rules, facts, fact):
    """The instances of a fact, a sorted list of tuples (number, used)."""
    instances = []
    for number in sorted(rules):
        instances.extend([(number, used) for used in uses_of(rules[number], facts, fact)])
    return instances


def binding_by(rule, fact, used):
    """The binding by which a rule's head is a fact and its yes literals are the used facts, or None."""
    literals = yes_literals(rule[2])
    if [rule[0]] + [literal[1] for literal in literals] != [one[0] for one in (fact,) + used]:
        return None
    binding = met_by(rule[1], fact[1], {})
    for literal, one in zip(literals, used):
        if binding is not None:
            binding = met_by(literal[2], one[1], binding)
    return binding


def is_use(rule, facts, fact, used):
    """Whether the used facts make an instance of a fact by a rule that is no group rule; no other one is looked for.

    Facts are a list of them or a dict that has them as keys.
    """
    binding = binding_by(rule, fact, used)
    return binding is not None and holds_by(rule[2], binding, facts)


def made_by(rule, facts):
    """The facts that one rule makes, a list; a fact may be in it more than once."""
    if is_group(rule):
        return group_facts(rule, facts)
    return [head_of(rule, binding) for binding in found_bindings(rule[2], facts)]


def made_facts(rules, facts):
    """The facts that have an instance, a sorted list."""
    made = {}
    for rule in rules.values():
        for fact in made_by(rule, facts):
            made[fact] = True
    return in_order(list(made))
