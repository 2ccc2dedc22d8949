"""The promise over the whole: rows of deeds, with every question asked behind each, held against the document."""

import random
import unittest

from helper import (in_mark_order, lively_book, meets, Model, plain_asked, plain_beneath, plain_costs, plain_falls,
                    plain_instances, plain_lacks, plain_many, plain_mixed, plain_sets, plain_takes, plain_values,
                    plain_web, some_deed, some_facts, some_values, WIDTHS)
from reason.desk import Desk
from reason.errors import Missing, Mixed, Present, Unlike, Wide
from reason.keeper import Keeper
from reason.papers import facts_of, takes
from reason.questions import asked_of
from reason.rules import widths_of
from reason.sets import beneath_of, put_in, sets_of
from reason.texts import fact_text, rule_text
from reason.values import values_of
from reason.why import entries_stand, why_of

ROWS = {"rule_in": "rule", "rule_out": "drop", "put": "put", "take": "take"}
MEASURES = (("bits", 45), ("chain", 6), ("shares", 360))


def texts(facts):
    return [fact_text(fact) for fact in facts]


def set_texts(sets):
    return [", ".join(texts(facts)) or "none" for facts in sets]


def row_of(kind, thing):
    said = rule_text(thing) if kind == "rule_in" else str(thing) if kind == "rule_out" else fact_text(thing)
    return f"{ROWS[kind]} {said}"


class WholeTest(unittest.TestCase):
    def setUp(self):
        self.chance = random.Random(3)
        self.seen = {}

    def note(self, *things):
        for thing in things:
            self.seen[thing] = self.seen.get(thing, 0) + 1

    def some_row(self):
        """Deeds in any order: a lively book put in, then others, some of them refused."""
        rules, told = lively_book(self.chance, 7)
        deeds = [("rule_in", rule) for rule in rules.values()] + [("put", fact) for fact in told]
        self.chance.shuffle(deeds)
        return deeds + [None] * 25

    def do_deed(self, kind, thing):
        """One deed, done by the desk, a keeper of its own and the model."""
        error, book, given = self.model.due(kind, thing)
        before = self.model.meaning()
        if error is not None:
            self.assertRaises(error, self.desk.say, row_of(kind, thing))
            self.assertRaises(error, getattr(self.keeper, kind), thing)
            self.note(error)
            return
        self.model.book, self.model.given = book, given
        self.model.last += kind == "rule_in"
        after = self.model.meaning()
        gone, come = [fact for fact in before if fact not in after], [fact for fact in after if fact not in before]
        number = (self.model.last,) if kind == "rule_in" else ()
        self.assertEqual(getattr(self.keeper, kind)(thing), number + (gone, come))
        self.assertEqual(self.desk.say(row_of(kind, thing)), [str(one) for one in number]
                         + ["- " + text for text in texts(gone)] + ["+ " + text for text in texts(come)])

    def hold_papers(self, rules, told, meaning):
        self.assertEqual((self.keeper.rules(), self.keeper.told(), self.keeper.facts()), (rules, told, meaning))
        for predicate in (*WIDTHS, "nowhere"):
            own = [fact for fact in meaning if fact[0] == predicate]
            self.assertEqual(self.desk.say(f"facts {predicate}"), texts(own))
        paper = self.keeper.paper()
        self.assertEqual(facts_of(paper), meaning)
        self.assertTrue(takes(rules, told, paper) and plain_takes(rules, told, paper))
        self.assertEqual([entry[0] for entry in paper if entry[2] == ("told",)], told)

    def hold_why(self, rules, told, meaning, fact):
        said = self.desk.say("why " + fact_text(fact))
        entries = why_of(rules, self.keeper.paper(), fact)
        self.assertTrue(entries_stand(rules, told, meaning, entries))
        ahead, expected = [], []
        for one, rank, reason in entries:
            used = reason[2] if reason[0] == "rule" else ()
            self.assertTrue(reason[0] == "told" or (reason[1], used) in plain_instances(rules, meaning, one))
            self.assertTrue(set(used) <= set(ahead))
            ahead.append(one)
            behind = {"told": "told", "rule": f"by {reason[-2:][0]}", "group": f"by group {reason[-1]}"}[reason[0]]
            expected.append(", ".join([f"{fact_text(one)} {behind}", *texts(used)]))
        self.assertEqual(said, expected)
        self.assertIn(fact, ahead)
        self.note("why", *[reason[0] for one, rank, reason in entries])

    def hold_plain(self, rules, told, web, fact):
        """All that is asked of a plain fact of the meaning."""
        text = fact_text(fact)
        self.assertEqual(self.desk.say("cost " + text), [str(self.costs[fact])])
        self.assertEqual(self.desk.say("many 1 " + text), ["1"])
        self.assertEqual(self.desk.say("many 30 " + text), [str(self.many[fact])])
        beneath = plain_beneath(web, told, fact)
        self.assertEqual(beneath_of(rules, told, fact), beneath)
        if len(beneath) > 8:
            for word in ("sets", "falls", "needs"):
                self.assertRaises(Wide, self.desk.say, f"{word} {text}")
            self.note(Wide)
            return
        sets = plain_sets(web, told, fact)
        self.assertEqual(sets_of(rules, told, fact), sets)
        self.assertEqual(self.desk.say("sets " + text), set_texts(sets))
        self.assertEqual(self.desk.say("falls " + text), set_texts(plain_falls(web, told, fact)))
        self.assertEqual(self.desk.say("needs " + text),
                         texts(one for one in beneath if all(one in facts for facts in sets)))
        for measure, told_values, values in self.values:
            self.assertEqual(put_in(sets, told_values, measure), values[fact])
        self.note("plain", ("many", self.many[fact] > 1), ("sets", len(sets) > 1))

    def hold_no_plain(self, fact, error):
        for word in ("cost", "many 9", "sets", "falls", "needs"):
            self.assertRaises(error, self.desk.say, f"{word} {fact_text(fact)}")

    def hold_lack(self, rules, meaning, fact):
        if fact in meaning:
            self.assertRaises(Present, self.desk.say, "lack " + fact_text(fact))
            return
        lacks = plain_lacks(rules, meaning, fact)
        self.assertEqual(self.desk.say("lack " + fact_text(fact)),
                         [" ".join(str(part) for part in (number, *lack)) for number, lack in lacks])
        self.note(*[lack[0] for number, lack in lacks])

    def hold_ask(self, rules, told, meaning, fact):
        pattern = tuple(self.chance.choice((None, place)) for place in fact[1])
        words = ["?" if place is None else str(place) for place in pattern]
        if widths_of(rules, told).get(fact[0], len(pattern)) != len(pattern):
            self.assertRaises(Unlike, self.desk.say, " ".join(["ask", fact[0], *words]))
            self.note(Unlike)
            return
        answers = [one for one in meaning if meets(one, (fact[0], pattern))]
        self.assertEqual(self.desk.say(" ".join(["ask", fact[0], *words])), texts(answers))
        marks, made = plain_asked(rules, told, (fact[0], pattern))
        self.assertEqual(asked_of(rules, told, (fact[0], pattern)), (answers, in_mark_order(marks), made))
        self.note(("answers", len(answers) > 0))

    def facts_of_heads(self, rules):
        """For a few rules a fact that the head may be, or nearly."""
        heads = self.chance.sample(list(rules.values()), min(3, len(rules)))
        return [(rule[0], tuple(self.chance.choice((0, 1, "k")) for term in rule[1])) for rule in heads]

    def hold_all(self):
        rules, told, meaning = self.model.book, self.keeper.told(), self.model.meaning()
        self.hold_papers(rules, told, meaning)
        web, mixed = plain_web(rules, told), plain_mixed(rules)
        self.costs = plain_costs(web, dict.fromkeys(told, 1), dict.fromkeys(rules, 1))
        self.many = plain_many(web, told, 30)
        self.values = []
        for measure in MEASURES:
            told_values = some_values(self.chance, told, measure)
            self.values.append((measure, told_values, plain_values(web, told_values, measure)))
            self.assertEqual(values_of(rules, told_values, measure), self.values[-1][2])
        for fact in self.chance.sample(meaning, min(4, len(meaning))):
            self.hold_why(rules, told, meaning, fact)
            self.hold_plain(rules, told, web, fact) if fact in web else self.hold_no_plain(fact, Mixed)
        for fact in [*self.facts_of_heads(rules), *some_facts(self.chance, 3), ("nowhere", (1,)), ("a", (1, 1))]:
            self.hold_lack(rules, meaning, fact)
            if fact not in meaning:
                self.hold_no_plain(fact, Mixed if fact[0] in mixed else Missing)
                self.assertRaises(Missing, self.desk.say, "why " + fact_text(fact))
            self.hold_ask(rules, told, meaning, fact)

    def test_rows_of_deeds_with_every_question_behind_each(self):
        for turn in range(6):
            self.desk, self.keeper, self.model = Desk(), Keeper(), Model()
            for deed in self.some_row():
                self.do_deed(*deed or some_deed(self.chance, self.model))
                self.hold_all()
        kinds = (Missing, Unlike, "why", "told", "rule", "group", "plain", ("many", True), ("sets", True), "head",
                 "literal", "other", ("answers", True), ("answers", False))
        self.assertGreater(min(self.seen.get(kind, 0) for kind in kinds), 2, self.seen)


if __name__ == "__main__":
    unittest.main()
