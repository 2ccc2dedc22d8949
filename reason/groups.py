"""What group rules give."""

from reason.joins import found_bindings
from reason.matching import replaced_by
from reason.rules import is_group
from reason.terms import in_order, is_whole


def gathered(grouping, bindings):
    """The last place that a group of bindings gives, or None where it gives no fact."""
    if grouping[0] == "count":
        return len(bindings)
    constants = [binding[grouping[1]] for binding in bindings]
    numbers = [constant for constant in constants if is_whole(constant)]
    if numbers == []:
        return None
    return sum(numbers) if grouping[0] == "sum" else min(numbers)


def group_facts(rule, facts):
    """The facts that a group rule gives, a sorted list."""
    terms = rule[1]
    groups = {}
    for binding in found_bindings(rule[2], facts):
        groups.setdefault(replaced_by(terms[:-1], binding), []).append(binding)
    given = []
    for places in groups:
        last = gathered(terms[-1], groups[places])
        if last is not None:
            given.append((rule[0], places + (last,)))
    return in_order(given)


def given_by_groups(rules, facts):
    """What each group rule among the rules gives, a dict of lists by numbers."""
    given = {}
    for number, rule in rules.items():
        if is_group(rule):
            given[number] = group_facts(rule, facts)
    return given
