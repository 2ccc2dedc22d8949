"""The meaning of rules and told facts, made layer by layer."""

from reason.errors import TooMany
from reason.groups import group_facts
from reason.joins import Join
from reason.layers import layers_of
from reason.matching import replaced_by
from reason.rules import is_group
from reason.terms import in_order

MOST_FACTS = 400


def newly_kept(facts, come):
    """Keeps what comes in a dict of facts; a list of those that were not there yet."""
    fresh = []
    for fact in come:
        if fact not in facts:
            facts[fact] = True
            fresh.append(fact)
            if len(facts) > MOST_FACTS:
                raise TooMany(f"the meaning has more than {MOST_FACTS} facts")
    return fresh


def fill_by_groups(facts, rules):
    """Keeps what the group rules of a layer give by the layers beneath."""
    beneath = list(facts)
    for rule in rules:
        if is_group(rule):
            newly_kept(facts, group_facts(rule, beneath))


def fill_by_rounds(facts, rules):
    """Keeps what the other rules of a layer give, until a round brings nothing."""
    joins = [(rule, Join(rule[2])) for rule in rules if not is_group(rule)]
    fresh = list(facts)
    going = True
    while going:
        brought = []
        for rule, join in joins:
            heads = [(rule[0], replaced_by(rule[1], binding)) for binding in join.grow(fresh, facts)]
            brought.extend(newly_kept(facts, heads))
        fresh = brought
        going = fresh != []


def meaning_of(rules, told):
    """The facts of the meaning, a sorted list; TooMany where they are more than four hundred."""
    layers = layers_of(rules)
    facts = {}
    # No rule looks at facts of a layer above its own, so the told ones of all layers may be there from the start.
    newly_kept(facts, told)
    for layer in range(max([0] + list(layers.values())) + 1):
        own_rules = [rule for rule in rules.values() if layers[rule[0]] == layer]
        fill_by_groups(facts, own_rules)
        fill_by_rounds(facts, own_rules)
    return in_order(list(facts))
