"""The least costs of plain facts."""

from reason.instances import head_of, used_by
from reason.joins import Join
from reason.plain import plain_facts, plain_rules


class Costing:
    """Costs that are settled, and the least ones known so far of the facts that wait.

    No instance costs less than a fact that it uses. So the cheapest fact that waits can't become cheaper: it is
    settled, and each instance is looked at once, when the last of its used facts is.
    """

    def __init__(self, rules, prices, costs):
        self.joins = [(number, rules[number], Join(rules[number][2])) for number in rules]
        self.prices = prices
        self.settled = {}
        self.waiting = costs

    def spread(self, fresh):
        """Notes what the instances cost whose last used facts are the fresh ones."""
        for number, rule, join in self.joins:
            bindings = join.grow(fresh, self.settled)
            for binding in bindings:
                fact = head_of(rule, binding)
                if fact not in self.settled:
                    cost = self.prices[number] + sum([self.settled[used] for used in used_by(rule[2], binding)])
                    self.waiting[fact] = min(cost, self.waiting.get(fact, cost))

    def settle(self):
        """Settles the cheapest fact that waits."""
        cheapest = min(self.waiting, key=lambda fact: self.waiting[fact])
        self.settled[cheapest] = self.waiting.pop(cheapest)
        self.spread([cheapest])


def costs_of(rules, told_costs, prices):
    """The costs of the plain facts of the meaning, a dict by facts; TooMany where the meaning is refused."""
    known = {}
    for fact in plain_facts(rules, list(told_costs)):
        if fact in told_costs:
            known[fact] = told_costs[fact]
    costing = Costing(plain_rules(rules), prices, known)
    # Bodies without a yes wait for no fact.
    costing.spread([])
    while len(costing.waiting) > 0:
        costing.settle()
    return costing.settled
