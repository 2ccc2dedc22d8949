"""One fact's reasons, told from a paper, and lists of entries that stand by themselves."""

from reason.errors import Missing
from reason.groups import given_by_groups
from reason.instances import is_use
from reason.layers import layer_of, layers_of
from reason.terms import fact_key


def used_in(reason):
    """The used facts of a reason, a tuple."""
    return reason[2] if reason[0] == "rule" else ()


def facts_beneath(entries, fact):
    """The fact and all that its entries lead down to, a list; entries are a dict by facts."""
    found = {fact: True}
    waiting = [fact]
    while waiting != []:
        entry = entries[waiting.pop()]
        for used in used_in(entry[2]):
            if used not in found:
                found[used] = True
                waiting.append(used)
    return list(found)


def why_of(rules, paper, fact):
    """What lies beneath a fact in a paper, a list of entries, each behind those of its used facts; Missing."""
    entries = {}
    for entry in paper:
        entries[entry[0]] = entry
    if fact not in entries:
        raise Missing("this fact is not in the paper")
    layers = layers_of(rules)
    beneath = [entries[one] for one in facts_beneath(entries, fact)]
    return sorted(beneath, key=lambda entry: (layer_of(layers, entry[0][0]), entry[1], fact_key(entry[0])))


def named_rules(rules, entries):
    """The rules that the entries' reasons name, a dict by numbers."""
    named = {}
    for entry in entries:
        number = None if entry[2][0] == "told" else entry[2][1]
        if number in rules:
            named[number] = rules[number]
    return named


def entries_stand(rules, told, facts, entries):
    """Whether a list of entries stands, by told facts and some facts."""
    known = {}
    for fact in facts:
        known[fact] = True
    named = named_rules(rules, entries)
    grouped = given_by_groups(named, facts)
    ahead = {}
    for fact, rank, reason in entries:
        if fact in ahead:
            return False
        used = used_in(reason)
        if reason[0] == "told":
            right = fact in told
        elif reason[1] in grouped:
            right = used == () and fact in grouped[reason[1]]
        else:
            right = reason[1] in named and is_use(named[reason[1]], known, fact, used)
        if not right or not all([one in ahead for one in used]):
            return False
        ahead[fact] = True
    return True
