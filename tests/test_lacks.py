import itertools
import random
import unittest

from helper import books, edge, no, numbered, path, PATHS, plain_lacks, WIDTHS, yes
from reason.errors import Present
from reason.lacks import lacks_of
from reason.meaning import meaning_of

HEAD, NOTHING = ("head",), ("nothing",)


def literal(number):
    return ("literal", number)


def lacks(rule, told, fact):
    """What one rule lacks for a fact, by the meaning."""
    said = lacks_of({5: rule}, meaning_of({5: rule}, told), fact)
    return [lack for number, lack in said if number == 5][0]


class HeadTest(unittest.TestCase):
    def test_a_constant(self):
        rule = ("p", (1, "X"), (yes("q", "X"),))
        self.assertEqual(lacks(rule, [("q", (3,))], ("p", (2, 3))), HEAD)
        self.assertEqual(lacks(rule, [("q", (3,))], ("p", ("a", 3))), HEAD)
        self.assertEqual(lacks(rule, [("q", (3,))], ("p", (1, 4))), literal(0))

    def test_a_variable_that_stands_twice(self):
        rule = ("p", ("X", "X"), (yes("q", "X"),))
        self.assertEqual(lacks(rule, [("q", (3,))], ("p", (3, 4))), HEAD)
        self.assertEqual(lacks(rule, [("q", (3,))], ("p", (4, 4))), literal(0))

    def test_the_other_terms_of_a_group_rule(self):
        rule = ("p", ("X", 1, "X", ("count",)), (yes("q", "X", "Y"),))
        told = [("q", (3, 5))]
        for places in ((3, 1, 4, 1), (3, 2, 3, 1), ("a", 1, 3, 9)):
            self.assertEqual(lacks(rule, told, ("p", places)), HEAD)
        self.assertEqual(lacks(rule, told, ("p", (3, 1, 3, 2))), ("other", 1))

    def test_the_last_place_of_a_group_rule_is_no_head(self):
        rule = ("p", (("sum", "X"),), (yes("q", "X"),))
        self.assertEqual(lacks(rule, [("q", (3,))], ("p", ("a",))), ("other", 3))


class LiteralTest(unittest.TestCase):
    def test_a_yes(self):
        rule = ("p", ("X",), (yes("q", "X", "Y"), yes("r", "Y"), yes("s", "X", "Z")))
        told = [("q", (1, 2)), ("q", (1, 3)), ("q", (2, 4)), ("r", (3,)), ("s", (4, 4)), ("q", (4, 9))]
        self.assertEqual(lacks(rule, told, ("p", (1,))), literal(2))
        self.assertEqual(lacks(rule, told, ("p", (2,))), literal(1))
        self.assertEqual(lacks(rule, told, ("p", (3,))), literal(0))
        self.assertEqual(lacks(rule, told, ("p", (4,))), literal(1))

    def test_a_not(self):
        rule = ("p", ("X",), (yes("q", "X", "Y"), no("r", "Y")))
        told = [("q", (1, 2)), ("q", (1, 3)), ("r", (2,)), ("r", (3,)), ("q", (2, 3))]
        self.assertEqual(lacks(rule, told, ("p", (1,))), literal(1))
        self.assertEqual(lacks(rule, told, ("p", (3,))), literal(0))

    def test_an_under_and_an_unlike(self):
        rule = ("p", ("X",), (yes("q", "X", "Y"), ("under", "X", "Y"), ("unlike", "Y", 9), yes("r")))
        rows = ((1, 0), (2, "a"), (3, 9), (4, 8), (5, 9), (5, 1), (6, 7))
        told = [("q", row) for row in rows]
        for number, lack in ((1, 1), (2, 1), (3, 2), (4, 3), (5, 2), (6, 3), (7, 0)):
            self.assertEqual(lacks(rule, told, ("p", (number,))), literal(lack))

    def test_one_of_the_first_that_has_no_yes_ahead(self):
        told = [("q", (1,)), ("r", (3,))]
        self.assertEqual(lacks(("p", ("X",), (("under", 2, 1), yes("q", "X"))), told, ("p", (1,))), literal(0))
        self.assertEqual(lacks(("p", ("X",), (("under", 1, 2), yes("q", "X"))), told, ("p", (2,))), literal(1))
        self.assertEqual(lacks(("p", ("X",), (("unlike", "a", "a"), yes("q", "X"))), told, ("p", (2,))), literal(0))
        self.assertEqual(lacks(("p", ("X",), (no("r", 3), yes("q", "X"))), told, ("p", (1,))), literal(0))
        self.assertEqual(lacks(("p", ("X",), (no("r", 4), no("r", 3), yes("q", "X"))), told, ("p", (7,))), literal(1))
        self.assertEqual(lacks(("p", (1,), (no("r", 4), ("under", "b", 3))), told, ("p", (1,))), literal(1))

    def test_literals_met_each_by_itself_but_not_together(self):
        rule = ("p", (), (yes("q", "X", "Y"), yes("r", "X"), yes("s", "Y")))
        told = [("q", (1, 1)), ("q", (2, 2)), ("r", (1,)), ("s", (2,))]
        self.assertEqual(lacks(rule, told, ("p", ())), literal(2))

    def test_a_variable_of_the_head_that_stands_late_in_the_body(self):
        rule = ("p", ("Z",), (yes("q", "X"), yes("r", "X", "Y"), yes("s", "Y", "Z")))
        told = [("q", (1,)), ("r", (1, 2)), ("s", (2, 3))]
        self.assertEqual(lacks(rule, told, ("p", (9,))), literal(2))

    def test_rules_that_lean_on_themselves(self):
        facts = meaning_of(numbered(*PATHS), [edge("a", "b"), edge("b", "c")])
        self.assertEqual(lacks_of(numbered(*PATHS), facts, path("c", "a")), [(1, literal(0)), (2, literal(0))])
        self.assertEqual(lacks_of(numbered(*PATHS), facts, path("b", "a")), [(1, literal(0)), (2, literal(1))])


class GroupTest(unittest.TestCase):
    TOLD = [("q", (1, 5)), ("q", (1, 7)), ("q", (2, "a")), ("q", (3, "a")), ("q", (3, 0)), ("q", (5, 4)), ("r", (5,))]

    def test_the_last_place_that_it_gives(self):
        for grouping, last in ((("sum", "Y"), 12), (("least", "Y"), 5), (("count",), 2)):
            rule = ("p", ("X", grouping), (yes("q", "X", "Y"),))
            for place in (99, -1, "a"):
                self.assertEqual(lacks(rule, self.TOLD, ("p", (1, place))), ("other", last))

    def test_none(self):
        for grouping in (("sum", "Y"), ("least", "Y")):
            rule = ("p", ("X", grouping), (yes("q", "X", "Y"),))
            self.assertEqual(lacks(rule, self.TOLD, ("p", (2, 0))), NOTHING)
            self.assertEqual(lacks(rule, self.TOLD, ("p", (3, 1))), ("other", 0))
            self.assertEqual(lacks(rule, self.TOLD, ("p", (4, 0))), literal(0))
        rule = ("p", ("X", ("count",)), (yes("q", "X", "Y"),))
        self.assertEqual(lacks(rule, self.TOLD, ("p", (2, 0))), ("other", 1))

    def test_a_literal_that_none_meets(self):
        rule = ("p", ("X", ("count",)), (yes("q", "X", "Y"), no("r", "X"), ("unlike", "X", 1)))
        self.assertEqual(lacks(rule, self.TOLD, ("p", (5, 1))), literal(1))
        self.assertEqual(lacks(rule, self.TOLD, ("p", (1, 1))), literal(2))
        self.assertEqual(lacks(rule, self.TOLD, ("p", (8, 0))), literal(0))

    def test_the_grouped_variable_among_the_other_terms(self):
        rule = ("p", ("Y", ("sum", "Y")), (yes("q", "X", "Y"),))
        told = self.TOLD + [("q", (9, 5))]
        self.assertEqual(lacks(rule, told, ("p", (5, 5))), ("other", 10))
        self.assertEqual(lacks(rule, told, ("p", ("a", 5))), NOTHING)
        self.assertEqual(lacks(rule, told, ("p", (6, 6))), literal(0))

    def test_a_group_of_all(self):
        rule = ("p", (("count",),), (yes("q", "X", "Y"),))
        self.assertEqual(lacks(rule, self.TOLD, ("p", (1,))), ("other", 6))
        self.assertEqual(lacks(rule, [], ("p", (0,))), literal(0))


class RulesTest(unittest.TestCase):
    def test_rules_that_tell_nothing(self):
        rules = numbered(("p", ("X",), (yes("q", "X"),)), ("r", ("X",), (yes("q", "X"),)), ("r", (1,), (no("q", 1),)))
        facts = meaning_of(rules, [("q", (1,))])
        self.assertEqual(lacks_of(rules, facts, ("r", (2,))), [(2, literal(0)), (3, HEAD)])
        self.assertEqual(lacks_of(rules, facts, ("q", (2,))), [])
        self.assertEqual(lacks_of(rules, facts, ("nowhere", ())), [])
        self.assertEqual(lacks_of(rules, facts, ("r", ())), [])
        self.assertEqual(lacks_of(rules, facts, ("r", (1, 1))), [])
        self.assertEqual(lacks_of({}, [], ("p", ())), [])

    def test_by_numbers(self):
        rules = {number: ("p", (number,), (yes("q", number),)) for number in (30, 2, 11, 7)}
        self.assertEqual(lacks_of(rules, [], ("p", (7,))), [(2, HEAD), (7, literal(0)), (11, HEAD), (30, HEAD)])

    def test_present(self):
        facts = meaning_of(numbered(*PATHS), [edge(1, 2)])
        for fact in facts:
            self.assertRaises(Present, lacks_of, numbered(*PATHS), facts, fact)
        self.assertRaises(Present, lacks_of, {}, [("p", ())], ("p", ()))


class PlainlyTest(unittest.TestCase):
    def test_against_the_document_worked_plainly(self):
        chance = random.Random(32)
        seen = {}
        for rules, told in books(32, 300):
            facts = meaning_of(rules, told)
            for rule in rules.values():
                for turn in range(3):
                    fact = (rule[0], tuple(chance.choices((0, 1, 2, "k", "m"), k=WIDTHS[rule[0]])))
                    if fact in facts:
                        self.assertRaises(Present, lacks_of, rules, facts, fact)
                        continue
                    said = lacks_of(rules, facts, fact)
                    self.assertEqual(said, plain_lacks(rules, facts, fact), (rules, told, fact))
                    for number, lack in said:
                        kind = lack if lack[0] == "literal" else lack[0]
                        seen[kind] = seen.get(kind, 0) + 1
        kinds = ("head", "other", literal(0), literal(1), literal(2))
        self.assertGreater(min(seen[kind] for kind in kinds), 5, seen)

    def test_groups_against_the_document_worked_plainly(self):
        chance = random.Random(33)
        seen = {}
        for turn in range(300):
            grouping = chance.choice((("sum", "Y"), ("least", "Y"), ("least", "X"), ("count",)))
            others = tuple(chance.choices(("X", "X", "Y", 1), k=chance.randint(0, 2)))
            guard = chance.choice(((), (no("r", "X"),), (("unlike", "Y", "a"),), (("under", "X", "Y"),)))
            rules = {8: ("p", others + (grouping,), (yes("q", "X", "Y"), *guard))}
            told = [("q", (chance.choice((1, 2, "b")), chance.choice(("a", "a", "b", 3)))) for time in range(4)]
            told = list(dict.fromkeys(told + [("r", (chance.choice((1, 2, "b")),))]))
            facts = meaning_of(rules, told)
            fact = ("p", tuple(chance.choices((1, 2, "a", "b"), k=len(others))) + (50,))
            said = lacks_of(rules, facts, fact)
            self.assertEqual(said, plain_lacks(rules, facts, fact), (rules, told, fact))
            seen[said[0][1][0]] = seen.get(said[0][1][0], 0) + 1
        self.assertGreater(min(seen[kind] for kind in ("head", "literal", "other", "nothing")), 5, seen)


class BoundsTest(unittest.TestCase):
    def test_wide_bodies(self):
        body = (yes("e", "A", "B"), yes("e", "B", "C"), yes("e", "C", "D"), yes("e", "D", "A"), no("f", "A", "B"))
        rules = {number: ("p", (number,), (*body, ("under", "A", 0))) for number in range(1, 11)}
        rules[11] = ("p", (("count",),), body)
        facts = [("e", row) for row in itertools.product(range(12), repeat=2)] + [("f", (1, 1))]
        facts = meaning_of(rules, facts)
        self.assertEqual(lacks_of(rules, facts, ("p", (4,))),
                         [(number, literal(5) if number == 4 else HEAD) for number in range(1, 11)]
                         + [(11, ("other", 12 ** 4 - 144))])


class UntouchedTest(unittest.TestCase):
    def test_what_is_handed_in_stays_and_the_list_is_new(self):
        rules, facts = numbered(*PATHS), [edge(2, 3), path(2, 3)]
        lacks_of(rules, facts, path(1, 3)).clear()
        self.assertEqual(lacks_of(rules, facts, path(1, 3)), [(1, literal(0)), (2, literal(0))])
        self.assertEqual((rules, facts), (numbered(*PATHS), [edge(2, 3), path(2, 3)]))


if __name__ == "__main__":
    unittest.main()
