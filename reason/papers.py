"""Papers of reasons, and the checker that takes them."""

from reason.groups import given_by_groups
from reason.instances import is_use, made_by
from reason.layers import layer_of, layers_of, rules_in_layer, top_layer
from reason.rules import is_group
from reason.terms import in_order

MOST_ENTRIES = 400


def ranks_of(paper):
    """The ranks of a paper's facts, a dict by facts."""
    ranks = {}
    for entry in paper:
        ranks[entry[0]] = entry[1]
    return ranks


def facts_of(paper):
    """The facts of a paper, a sorted list, each once."""
    return in_order(list(ranks_of(paper)))


class Checker:
    """Rules and told facts, and the ranks of the paper that is held against them."""

    def __init__(self, rules, told, ranks):
        self.book = rules
        self.layers = layers_of(rules)
        self.ranks = ranks
        self.given = {}
        for fact in told:
            self.given[fact] = True

    def is_lower(self, used, fact):
        """Whether a used fact stands beneath a fact: in a lower layer, or with a lesser rank."""
        if layer_of(self.layers, used[0]) < layer_of(self.layers, fact[0]):
            return True
        return self.ranks[used] < self.ranks[fact]

    def is_rule_right(self, fact, number, used):
        rule = self.book.get(number)
        if rule is None or is_group(rule) or not is_use(rule, self.ranks, fact, used):
            return False
        return all([self.is_lower(one, fact) for one in used])

    def are_right(self, entries, grouped):
        """Whether the entries' reasons are right; grouped is what each group rule of their layer gives."""
        for fact, rank, reason in entries:
            if reason[0] == "told":
                right = fact in self.given
            elif reason[0] == "group":
                right = fact in grouped.get(reason[1], [])
            else:
                right = self.is_rule_right(fact, reason[1], reason[2])
            if not right:
                return False
        return True

    def is_closed(self, own_rules):
        """Whether all facts that the rules make are in the paper."""
        facts = list(self.ranks)
        for rule in own_rules.values():
            if not all([fact in self.ranks for fact in made_by(rule, facts)]):
                return False
        return True

    def takes_layer(self, layer, paper):
        own_rules = rules_in_layer(self.book, self.layers, layer)
        grouped = given_by_groups(own_rules, list(self.ranks))
        entries = [entry for entry in paper if layer_of(self.layers, entry[0][0]) == layer]
        return self.are_right(entries, grouped) and self.is_closed(own_rules)


def takes(rules, told, paper):
    """Whether the checker takes a paper."""
    ranks = ranks_of(paper)
    if len(paper) > MOST_ENTRIES or len(ranks) < len(paper):
        return False
    if not all([fact in ranks for fact in told]):
        return False
    checker = Checker(rules, told, ranks)
    # From the lowest layer on, and no further than the first that is wrong: above layers that are right and closed,
    # right reasons are had by the meaning's facts alone. So no facts made up lead through more bindings than these.
    for layer in range(top_layer(checker.layers) + 1):
        if not checker.takes_layer(layer, paper):
            return False
    return True
