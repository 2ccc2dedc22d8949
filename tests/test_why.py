import itertools
import random
import unittest

from helper import books, no, numbered, plain_instances, yes
from reason.errors import Missing
from reason.layers import layers_of
from reason.meaning import meaning_of
from reason.rounds import worked_paper
from reason.terms import fact_key
from reason.why import entries_stand, why_of

TOLD = ("told",)
RULES = numbered(("path", ("X", "Y"), (yes("edge", "X", "Y"),)),
                 ("path", ("X", "Z"), (yes("edge", "X", "Y"), yes("path", "Y", "Z"))),
                 ("far", ("X",), (yes("many", "X", "N"), ("under", 1, "N"), yes("path", "X", "Y"), no("shut", "X"))),
                 ("many", ("X", ("count",)), (yes("path", "X", "Y"),)),
                 ("both", ("X",), (yes("path", "X", "Y"), yes("path", "X", "Y"), yes("edge", "X", "Y"))),
                 ("still", (), (no("shut", 1),)))


def edge(one, other):
    return ("edge", (one, other))


def path(one, other):
    return ("path", (one, other))


def rule(number, *used):
    return ("rule", number, used)


EDGES = [edge(1, 2), edge(2, 3), edge(3, 4)]
PAPER = worked_paper(RULES, EDGES)
ENTRIES = {entry[0]: entry for entry in PAPER}


class WhyTest(unittest.TestCase):
    def told_for(self, fact):
        return [entry[0] for entry in why_of(RULES, PAPER, fact)]

    def test_a_told_fact_and_a_groups_entry_have_nothing_beneath(self):
        self.assertEqual(why_of(RULES, PAPER, edge(2, 3)), [(edge(2, 3), 0, TOLD)])
        self.assertEqual(why_of(RULES, PAPER, ("many", (1, 3))), [(("many", (1, 3)), 0, ("group", 4))])

    def test_a_rule_without_a_yes(self):
        self.assertEqual(why_of(RULES, PAPER, ("still", ())), [(("still", ()), 0, rule(6))])

    def test_down_a_chain(self):
        self.assertEqual(why_of(RULES, PAPER, path(1, 4)),
                         [(edge(1, 2), 0, TOLD), (edge(2, 3), 0, TOLD), (edge(3, 4), 0, TOLD),
                          (path(3, 4), 1, rule(1, edge(3, 4))), (path(2, 4), 2, rule(2, edge(2, 3), path(3, 4))),
                          (path(1, 4), 3, rule(2, edge(1, 2), path(2, 4)))])

    def test_nothing_beside_what_lies_beneath(self):
        self.assertEqual(self.told_for(path(3, 4)), [edge(3, 4), path(3, 4)])
        self.assertEqual(self.told_for(path(2, 3)), [edge(2, 3), path(2, 3)])

    def test_used_twice_told_once(self):
        self.assertEqual(self.told_for(("both", (3,))), [edge(3, 4), path(3, 4), ("both", (3,))])

    def test_used_by_two(self):
        rules = numbered(("a", (), (yes("d"),)), ("b", (), (yes("d"),)), ("c", (), (yes("b"), yes("a"), yes("d"))))
        paper = worked_paper(rules, [("d", ())])
        self.assertEqual([entry[0][0] for entry in why_of(rules, paper, ("c", ()))], ["d", "a", "b", "c"])

    def test_layers_come_ahead_of_ranks(self):
        # In layer 0 ranks run up to 3; far is of layer 2, and many, of layer 1, has rank 0.
        said = why_of(RULES, PAPER, ("far", (1,)))
        used = ENTRIES[("far", (1,))][2][2]
        self.assertEqual(used[0], ("many", (1, 3)))
        self.assertEqual([entry[0] for entry in said[-2:]], [("many", (1, 3)), ("far", (1,))])
        self.assertEqual({entry[0] for entry in said[:-2]}, set(self.told_for(used[1])))
        rules = numbered(("p", (), (yes("q"), no("w"))), ("q", (), (yes("a"),)), ("z", (), (yes("p"), yes("q"))))
        paper = [(("a", ()), 5, TOLD), (("q", ()), 9, rule(2, ("a", ()))), (("p", ()), 2, rule(1, ("q", ()))),
                 (("z", ()), 3, rule(3, ("p", ()), ("q", ())))]
        for mixed in itertools.permutations(paper):
            self.assertEqual(why_of(rules, list(mixed), ("z", ())), paper)

    def test_ranks_come_ahead_of_facts_and_facts_stand_in_their_order(self):
        rules = numbered(("t", (), (yes("p", "a"), yes("p", 10), yes("p", 9), yes("c"))), ("c", (), (yes("b"),)))
        facts = [("p", (9,)), ("p", (10,)), ("p", ("a",)), ("b", ())]
        paper = [(fact, 1, TOLD) for fact in facts[:3]]
        paper += [(("b", ()), 2, TOLD), (("c", ()), 4, rule(2, ("b", ()))),
                  (("t", ()), 7, rule(1, facts[2], facts[1], facts[0], ("c", ())))]
        for turn in range(5):
            mixed = random.Random(turn).sample(paper, len(paper))
            self.assertEqual(why_of(rules, mixed, ("t", ())), paper)

    def test_a_told_reason_is_not_gone_beneath(self):
        paper = worked_paper(RULES, EDGES + [path(2, 4)])
        self.assertEqual([entry[0] for entry in why_of(RULES, paper, path(1, 4))], [edge(1, 2), path(2, 4), path(1, 4)])

    def test_missing(self):
        for fact in (edge(1, 4), path(4, 1), ("path", (1,)), ("path", ()), ("shut", (1,)), ("nowhere", ())):
            self.assertRaises(Missing, why_of, RULES, PAPER, fact)
        self.assertRaises(Missing, why_of, {}, [], ("p", ()))

    def test_each_entry_behind_those_of_its_used_facts(self):
        chance = random.Random(21)
        deep = 0
        for rules, told in books(21, 150):
            paper, layers = worked_paper(rules, told), layers_of(rules)
            facts = [entry[0] for entry in paper]
            by_fact = {entry[0]: entry for entry in paper}
            for fact in facts:
                said = why_of(rules, chance.sample(paper, len(paper)), fact)
                wanted = {fact}
                for turn in facts:
                    wanted |= {used for one in wanted if by_fact[one][2][0] == "rule" for used in by_fact[one][2][2]}
                self.assertEqual(said, sorted([by_fact[one] for one in wanted], key=lambda entry: (
                    layers.get(entry[0][0], 0), entry[1], fact_key(entry[0]))))
                self.assertIs(entries_stand(rules, told, facts, said), True)
                deep += len(said) > 2
        self.assertGreater(deep, 50)

    def test_what_is_handed_in_stays_and_the_list_is_new(self):
        rules, paper = dict(RULES), list(PAPER)
        why_of(rules, paper, path(1, 4)).clear()
        self.assertEqual(len(why_of(rules, paper, path(1, 4))), 6)
        self.assertEqual((rules, paper), (RULES, PAPER))


class StandTest(unittest.TestCase):
    FACTS = meaning_of(RULES, EDGES)

    def stand(self, *entries, facts=None, told=EDGES):
        return entries_stand(RULES, told, self.FACTS if facts is None else facts, list(entries))

    def test_the_empty_list(self):
        self.assertIs(self.stand(), True)
        self.assertIs(entries_stand({}, [], [], []), True)

    def test_told(self):
        self.assertIs(self.stand((edge(1, 2), 0, TOLD)), True)
        self.assertIs(self.stand((edge(1, 2), 0, TOLD), facts=[]), True)
        self.assertIs(self.stand((edge(1, 3), 0, TOLD)), False)
        self.assertIs(self.stand((path(1, 2), 0, TOLD)), False)
        self.assertIs(self.stand((edge(1, 2), 0, TOLD), told=[]), False)

    def test_no_fact_in_two_entries(self):
        one, other = (edge(1, 2), 0, TOLD), (path(1, 2), 1, rule(1, edge(1, 2)))
        self.assertIs(self.stand(one, other), True)
        self.assertIs(self.stand(one, one), False)
        self.assertIs(self.stand(one, other, (edge(1, 2), 5, TOLD)), False)
        self.assertIs(self.stand(one, other, (path(1, 2), 9, rule(1, edge(1, 2)))), False)

    def test_used_facts_are_in_entries_ahead(self):
        one, other = (edge(1, 2), 0, TOLD), (path(1, 2), 1, rule(1, edge(1, 2)))
        self.assertIs(self.stand(other), False)
        self.assertIs(self.stand(other, one), False)
        self.assertIs(self.stand((path(1, 3), 0, rule(2, edge(1, 2), path(2, 3))), one), False)
        rules, fact = numbered(("p", (), (yes("p"),))), ("p", ())
        self.assertIs(entries_stand(rules, [], [fact], [(fact, 0, rule(1, fact))]), False)

    def test_ranks_are_not_looked_at(self):
        for first, second in ((0, 0), (9, 1), (3, 4)):
            self.assertIs(self.stand((edge(1, 2), first, TOLD), (path(1, 2), second, rule(1, edge(1, 2)))), True)

    def test_a_used_fact_that_is_not_among_the_facts(self):
        facts = [fact for fact in self.FACTS if fact != edge(1, 2)]
        self.assertIs(self.stand((edge(1, 2), 0, TOLD), (path(1, 2), 1, rule(1, edge(1, 2))), facts=facts), False)

    def test_the_fact_itself_need_not_be_among_the_facts(self):
        self.assertIs(self.stand((edge(1, 2), 0, TOLD), (path(1, 2), 1, rule(1, edge(1, 2))), facts=[edge(1, 2)]), True)

    def test_wrong_instances(self):
        ahead = [(fact, 0, TOLD) for fact in EDGES] + [(path(2, 3), 1, rule(1, edge(2, 3)))]
        self.assertIs(self.stand(*ahead, (path(1, 3), 2, rule(2, edge(1, 2), path(2, 3)))), True)
        for fact, reason in ((path(1, 3), rule(1, edge(1, 2))), (path(1, 3), rule(2, path(2, 3), edge(1, 2))),
                             (path(1, 3), rule(2, edge(1, 2))), (path(1, 3), rule(2)),
                             (path(1, 3), rule(2, edge(1, 2), edge(2, 3))),
                             (path(1, 4), rule(2, edge(1, 2), path(2, 3))), (("path", (1,)), rule(1, edge(1, 2))),
                             (("way", (1, 2)), rule(1, edge(1, 2))), (path(1, 2), rule(1, edge(1, 2), edge(1, 2))),
                             (path(1, 2), rule(1, ("edge", (1,)))), (path(1, 2), rule(1, path(2, 3)))):
            self.assertIs(self.stand(*ahead, (fact, 2, reason)), False, (fact, reason))

    def test_numbers_that_no_rule_has(self):
        for number in (0, 7, -1, 99):
            self.assertIs(self.stand((edge(1, 2), 0, TOLD), (path(1, 2), 1, rule(number, edge(1, 2)))), False)
            self.assertIs(self.stand((("many", (1, 3)), 0, ("group", number))), False)
            self.assertIs(self.stand((("still", ()), 0, rule(number))), False)

    def test_nots_and_guards_are_read_of_the_facts(self):
        self.assertIs(self.stand((("still", ()), 0, rule(6))), True)
        self.assertIs(self.stand((("still", ()), 0, rule(6)), facts=[("shut", (1,))]), False)
        self.assertIs(self.stand((("still", ()), 0, rule(6)), facts=[("shut", (2,))], told=[("shut", (1,))]), True)
        rules = numbered(("p", ("X",), (yes("q", "X"), ("under", "X", 5))))
        for place, answer in ((4, True), (5, False), ("a", False)):
            fact = ("q", (place,))
            self.assertIs(entries_stand(rules, [fact], [fact], [(fact, 0, TOLD), (("p", (place,)), 0, rule(1, fact))]),
                          answer)

    def test_groups_are_read_of_the_facts(self):
        self.assertIs(self.stand((("many", (1, 3)), 0, ("group", 4))), True)
        self.assertIs(self.stand((("many", (1, 2)), 0, ("group", 4))), False)
        self.assertIs(self.stand((("many", (1, 2)), 0, ("group", 4)), facts=[path(1, 2), path(1, 1), path(2, 1)]), True)
        self.assertIs(self.stand((("many", (1, 0)), 0, ("group", 4)), facts=[path(2, 1)]), False)
        self.assertIs(self.stand((("many", (4, 0)), 0, ("group", 4))), False)
        self.assertIs(self.stand((("many", (3,)), 0, ("group", 4))), False)
        self.assertIs(self.stand((("many", ()), 0, ("group", 4))), False)

    def test_a_rules_reason_of_a_group_rule(self):
        self.assertIs(self.stand((("many", (1, 3)), 0, rule(4))), True)
        self.assertIs(self.stand((("many", (1, 2)), 0, rule(4))), False)
        ahead = [(edge(3, 4), 0, TOLD), (path(3, 4), 1, rule(1, edge(3, 4)))]
        self.assertIs(self.stand(*ahead, (("many", (3, 1)), 0, rule(4))), True)
        self.assertIs(self.stand(*ahead, (("many", (3, 1)), 0, rule(4, path(3, 4)))), False)

    def test_a_groups_reason_of_another_rule(self):
        self.assertIs(self.stand((("still", ()), 0, ("group", 6))), True)
        self.assertIs(self.stand((("still", ()), 0, ("group", 6)), facts=[("shut", (1,))]), False)
        self.assertIs(self.stand((edge(1, 2), 0, TOLD), (path(1, 2), 1, ("group", 1))), False)
        self.assertIs(self.stand((("still", ()), 0, ("group", 4))), False)
        self.assertIs(self.stand((("many", (1, 3)), 0, ("group", 6))), False)

    def test_against_the_document_worked_plainly(self):
        chance = random.Random(22)
        answers = {True: 0, False: 0}
        for rules, told in books(22, 200):
            meaning, paper, layers = meaning_of(rules, told), worked_paper(rules, told), layers_of(rules)
            for time in range(4):
                facts = [fact for fact in meaning if chance.random() < 0.95]
                entries = [entry for entry in paper if chance.random() < 0.95]
                if chance.random() < 0.7:
                    entries = sorted(entries, key=lambda entry: (layers.get(entry[0][0], 0), entry[1]))
                if entries and chance.random() < 0.5:
                    fact, rank, reason = entries.pop()
                    number = chance.choice([*rules, 0])
                    entries.append((fact, rank, chance.choice((reason, ("group", number), rule(number)))))
                answer = entries_stand(rules, told, facts, entries)
                self.assertIs(answer, self.stands_plainly(rules, told, facts, entries), (rules, told, facts, entries))
                answers[answer] += 1
        self.assertGreater(min(answers.values()), 200)

    def stands_plainly(self, rules, told, facts, entries):
        ahead = []
        for fact, rank, reason in entries:
            used = reason[2] if reason[0] == "rule" else ()
            right = fact in told if reason == TOLD else (reason[1], used) in plain_instances(rules, facts, fact)
            if fact in ahead or not right or any(one not in ahead for one in used):
                return False
            ahead.append(fact)
        return True

    def test_at_the_bounds(self):
        told = [("e", row) for row in itertools.product(range(12), repeat=2)]
        body = (yes("e", "A", "B"), yes("e", "B", "C"), yes("e", "C", "D"), yes("e", "D", "A"))
        rules = {number: ("p", ("A", "B", number, ("count",)), body) for number in range(1, 2)}
        rules.update({number: ("q", ("A",), body) for number in range(2, 31)})
        facts = meaning_of(rules, told)
        paper = worked_paper(rules, told)
        entries = why_of(rules, paper, ("q", (3,))) + [entry for entry in paper if entry[0][0] == "p"]
        self.assertIs(entries_stand(rules, told, facts, entries), True)
        self.assertEqual(len(entries) > 144, True)

    def test_what_is_handed_in_stays(self):
        told, facts = list(EDGES), list(self.FACTS)
        entries = why_of(RULES, PAPER, path(1, 4))
        handed = list(entries)
        rules = dict(RULES)
        self.assertIs(entries_stand(rules, told, facts, entries), True)
        self.assertEqual((rules, told, facts, entries), (RULES, EDGES, self.FACTS, handed))


if __name__ == "__main__":
    unittest.main()
