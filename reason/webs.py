"""The plain facts of a meaning, and the used facts of all their instances."""

from reason.instances import head_of, used_by
from reason.joins import found_bindings
from reason.plain import plain_rules


class Web:
    """Plain facts of a meaning, numbered from 0 on in their order, and of each the used facts of its instances.

    Instances may be some hundred thousands, so numbers stand for the facts in them. Mixed facts are in no instance of
    a plain one.
    """

    def __init__(self, rules, plain):
        self.listed = list(plain)
        self.numbers = {}
        for number, fact in enumerate(self.listed):
            self.numbers[fact] = number
        self.uses = [[] for fact in self.listed]
        for rule in plain_rules(rules).values():
            self.weave(rule)

    def weave(self, rule):
        """Keeps the used facts of a rule's instances, tuples of numbers."""
        for binding in found_bindings(rule[2], self.listed):
            used = [self.numbers[fact] for fact in used_by(rule[2], binding)]
            self.uses[self.numbers[head_of(rule, binding)]].append(tuple(used))

    def used_beneath(self, number):
        """The numbers of the facts that the instances of a fact use, a list, each once."""
        found = {}
        for used in self.uses[number]:
            for one in used:
                found[one] = True
        return list(found)

    def lying_beneath(self, number):
        """A fact's number and those of all facts that its instances lead down to, a list, each once."""
        found = {number: True}
        waiting = [number]
        while waiting != []:
            for one in self.used_beneath(waiting.pop()):
                if one not in found:
                    found[one] = True
                    waiting.append(one)
        return list(found)
