"""The keeper: rules and told facts, put in and taken out, and the meaning with its reasons."""

from reason.errors import Missing, NoFact, NoRule, Twice, Unsafe
from reason.layers import layers_of
from reason.papers import facts_of
from reason.rounds import worked_paper
from reason.rules import is_rule, is_safe, widths_of
from reason.terms import in_order, is_fact, is_whole


def those_not_in(facts, others):
    known = {}
    for fact in others:
        known[fact] = True
    return [fact for fact in facts if fact not in known]


class Keeper:
    """Keeps rules by numbers and told facts; each deed answers what is gone from the meaning and what has come."""

    def __init__(self):
        self.last_number = 0
        self.book = {}
        self.given = []
        self.entries = []

    def moved_to(self, book, given):
        """Keeps other rules and told facts, and answers the difference; where their meaning is refused, as before."""
        entries = worked_paper(book, given)
        before = facts_of(self.entries)
        behind = facts_of(entries)
        self.book = book
        self.given = given
        self.entries = entries
        return (those_not_in(before, behind), those_not_in(behind, before))

    def rule_in(self, rule):
        """Puts in a rule: a tuple (number, gone, come)."""
        if not is_rule(rule):
            raise NoRule("this is no rule")
        if rule in list(self.book.values()):
            raise Twice("this rule is there already")
        number = self.last_number + 1
        book = dict(self.book)
        book[number] = rule
        widths_of(book, self.given)
        if not is_safe(rule):
            raise Unsafe("a variable of this rule stands in no yes, or in none ahead")
        layers_of(book)
        difference = self.moved_to(book, self.given)
        self.last_number = number
        return (number,) + difference

    def rule_out(self, number):
        """Takes out a rule: a tuple (gone, come)."""
        if not is_whole(number) or number not in self.book:
            raise Missing("no rule has this number")
        book = dict(self.book)
        book.pop(number)
        return self.moved_to(book, self.given)

    def put(self, fact):
        """Tells a fact: a tuple (gone, come)."""
        if not is_fact(fact):
            raise NoFact("this is no fact")
        if fact in self.given:
            raise Twice("this fact is told already")
        given = self.given + [fact]
        widths_of(self.book, given)
        return self.moved_to(self.book, given)

    def take(self, fact):
        """Tells a fact no longer: a tuple (gone, come)."""
        # What only equals a fact, as (True,) equals (1,), is none, and so not there.
        if not is_fact(fact) or fact not in self.given:
            raise Missing("this fact is not told")
        return self.moved_to(self.book, [told for told in self.given if told != fact])

    def rules(self):
        """The rules, a dict by numbers."""
        return dict(self.book)

    def told(self):
        """The told facts, a sorted list."""
        return in_order(self.given)

    def facts(self):
        """The facts of the meaning, a sorted list."""
        return facts_of(self.entries)

    def paper(self):
        """A paper of the meaning, its entries in the order of facts."""
        return list(self.entries)
