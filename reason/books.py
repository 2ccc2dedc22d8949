"""Two books of rules held against one another."""

from reason.errors import Mixed, Wide
from reason.instances import head_of, used_by
from reason.meaning import meaning_of
from reason.parts import parts_of
from reason.rules import is_group, rule_variables
from reason.terms import in_order, is_name

MOST_GIVEN = 8
LETTERS = "abcdefghijklmnopqrstuvwxyz"


def facts_for(predicate, rules, told):
    """The facts of a predicate in a meaning, a sorted list; TooMany."""
    return [fact for fact in meaning_of(rules, told) if fact[0] == predicate]


def parting_of(rules, other, given, predicate):
    """The least part of given facts for which two books differ in a predicate, a tuple, or None; Wide, TooMany."""
    if len(given) > MOST_GIVEN:
        raise Wide(f"more than {MOST_GIVEN} facts are given")
    for part in parts_of(in_order(given)):
        if facts_for(predicate, rules, list(part)) != facts_for(predicate, other, list(part)):
            return part
    return None


def is_bare(rules):
    """Whether a book has no group rule and yes literals alone."""
    for rule in rules.values():
        if is_group(rule) or not all([literal[0] == "yes" for literal in rule[2]]):
            return False
    return True


def terms_in(rules):
    """All terms that stand in a bare book, a dict of True."""
    terms = {}
    for rule in rules.values():
        for row in [rule[1]] + [literal[2] for literal in rule[2]]:
            for term in row:
                terms[term] = True
    return terms


def new_names(taken):
    """The names of one letter, then those of two, in order, that are not taken."""
    names = list(LETTERS)
    for letter in LETTERS:
        names.extend([letter + other for other in LETTERS])
    return [name for name in names if is_name(name) and name not in taken]


def first_not_given(side, rules, other, names):
    """What is told of the first rule whose head the other book doesn't give from its body, or None; TooMany."""
    for number in sorted(rules):
        rule = rules[number]
        binding = dict(zip(rule_variables(rule), names))
        body_facts = {}
        for fact in used_by(rule[2], binding):
            body_facts[fact] = True
        facts = in_order(list(body_facts))
        if head_of(rule, binding) not in meaning_of(other, facts):
            return (side, number, tuple(facts))
    return None


def alike_of(rules, other):
    """None where two bare books are alike, else a tuple (side, number, facts) that parts them; Mixed, TooMany."""
    if not is_bare(rules) or not is_bare(other):
        raise Mixed("a bare book has no group rule and yes literals alone")
    taken = terms_in(rules)
    taken.update(terms_in(other))
    names = new_names(taken)
    parted = first_not_given(0, rules, other, names)
    return first_not_given(1, other, rules, names) if parted is None else parted
