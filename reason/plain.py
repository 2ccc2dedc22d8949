"""Mixed and plain predicates: above a not or a group, or not."""

from reason.errors import Missing, Mixed
from reason.meaning import meaning_of
from reason.rules import has_predicate, is_group


def is_mixing(rule, mixed):
    """Whether a rule makes its predicate mixed: by itself, or by a predicate of its body that is among the mixed."""
    if is_group(rule):
        return True
    predicates = [literal[1] for literal in rule[2] if has_predicate(literal)]
    kinds = [literal[0] for literal in rule[2]]
    return "not" in kinds or any([predicate in mixed for predicate in predicates])


def mixed_of(rules):
    """The mixed predicates, a sorted list."""
    mixed = {}
    grows = True
    while grows:
        grows = False
        for rule in rules.values():
            if rule[0] not in mixed and is_mixing(rule, mixed):
                mixed[rule[0]] = True
                grows = True
    return sorted(mixed)


def plain_rules(rules):
    """The rules for plain predicates, a dict by numbers."""
    mixed = mixed_of(rules)
    plain = {}
    for number, rule in rules.items():
        if rule[0] not in mixed:
            plain[number] = rule
    return plain


def plain_facts(rules, told):
    """The plain facts of the meaning, a sorted list; TooMany where the meaning is refused."""
    mixed = mixed_of(rules)
    return [fact for fact in meaning_of(rules, told) if fact[0] not in mixed]


def refuse_unless_plain(rules, plain, fact):
    """Mixed where a fact's predicate is mixed, else Missing where it is not among the plain facts of the meaning."""
    if fact[0] in mixed_of(rules):
        raise Mixed("a not or a group stands beneath this predicate")
    if fact not in plain:
        raise Missing("this fact is not in the meaning")
