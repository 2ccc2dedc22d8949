"""Papers worked layer by layer, and in each layer round by round."""

from reason.errors import TooMany
from reason.groups import given_by_groups
from reason.instances import head_of, used_by
from reason.joins import Join
from reason.layers import layer_of, layers_of, rules_in_layer, top_layer
from reason.papers import MOST_ENTRIES
from reason.rules import is_group
from reason.terms import in_order


def enter(entries, fact, rank, reason):
    """Keeps an entry for a fact that has none yet."""
    if len(entries) == MOST_ENTRIES:
        raise TooMany(f"the meaning has more than {MOST_ENTRIES} facts")
    entries[fact] = (fact, rank, reason)


def enter_told(entries, told):
    for fact in told:
        enter(entries, fact, 0, ("told",))


def enter_groups(entries, rules, beneath):
    """Keeps what the group rules of a layer give by the layers beneath."""
    given = given_by_groups(rules, beneath)
    for number in given:
        for fact in given[number]:
            if fact not in entries:
                enter(entries, fact, 0, ("group", number))


def enter_rounds(entries, rules, beneath):
    """Keeps what the other rules of a layer give: by the layers beneath, then by what the round ahead brought."""
    joins = [(number, Join(rules[number][2])) for number in rules if not is_group(rules[number])]
    known = len(beneath)
    fresh = beneath
    rank = 0
    while fresh != [] or rank == 0:
        for number, join in joins:
            rule = rules[number]
            bindings = join.grow(fresh, entries)
            for binding in bindings:
                fact = head_of(rule, binding)
                if fact not in entries:
                    enter(entries, fact, rank, ("rule", number, used_by(rule[2], binding)))
        # Sorted, so that which reason is found first does not hang on the order in which facts were handed in.
        fresh = in_order(list(entries)[known:])
        known = len(entries)
        rank = rank + 1


def worked_paper(rules, told):
    """A paper of the meaning, its entries in the order of facts; TooMany where these are more than four hundred."""
    layers = layers_of(rules)
    entries = {}
    for layer in range(top_layer(layers) + 1):
        beneath = in_order(list(entries))
        own_rules = rules_in_layer(rules, layers, layer)
        enter_told(entries, [fact for fact in told if layer_of(layers, fact[0]) == layer])
        enter_groups(entries, own_rules, beneath)
        enter_rounds(entries, own_rules, beneath)
    return [entries[fact] for fact in in_order(list(entries))]
