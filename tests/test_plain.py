import unittest

from helper import books, no, numbered, plain_meaning, plain_mixed, yes
from reason.errors import TooMany
from reason.layers import layers_of
from reason.plain import mixed_of, plain_facts


class MixedTest(unittest.TestCase):
    def test_of_no_rules_and_of_yes_alone(self):
        self.assertEqual(mixed_of({}), [])
        rules = numbered(("p", ("X",), (yes("q", "X"), ("under", "X", 1), ("unlike", "X", 0))),
                         ("r", (), (yes("p", 1),)))
        self.assertEqual(mixed_of(rules), [])

    def test_a_not_and_a_group(self):
        rules = numbered(("p", (), (yes("a"), no("b"))), ("q", (("count",),), (yes("c", "X"),)),
                         ("r", (("sum", "X"),), (yes("d", "X"),)), ("s", (("least", "X"),), (yes("e", "X"),)))
        self.assertEqual(mixed_of(rules), ["p", "q", "r", "s"])

    def test_far_beneath(self):
        rules = numbered(("a", (), (yes("b"), yes("z"))), ("b", (), (yes("c"),)), ("c", (), (yes("y"), yes("d"))),
                         ("d", (), (no("e"),)), ("e", (), (yes("f"),)))
        self.assertEqual(mixed_of(rules), ["a", "b", "c", "d"])
        rules = {number: rules[number] for number in (5, 1, 3, 4, 2)}
        self.assertEqual(mixed_of(rules), ["a", "b", "c", "d"])
        grouped = {**rules, 4: ("d", (("count",),), (yes("e"),)), 3: ("c", (), (yes("y"), yes("d", "X")))}
        self.assertEqual(mixed_of(grouped), ["a", "b", "c", "d"])

    def test_one_rule_of_several(self):
        rules = numbered(("p", (), (yes("a"),)), ("p", (), (no("b"),)), ("q", (), (yes("a"),)), ("q", (), (yes("p"),)))
        self.assertEqual(mixed_of(rules), ["p", "q"])

    def test_rules_that_lean_on_themselves(self):
        rules = numbered(("p", (), (yes("q"),)), ("q", (), (yes("p"),)), ("q", (), (yes("q"),)))
        self.assertEqual(mixed_of(rules), [])
        self.assertEqual(mixed_of({**rules, 4: ("q", (), (no("r"),))}), ["p", "q"])

    def test_a_constant_that_is_called_like_a_mixed_predicate(self):
        rules = numbered(("p", (), (no("a"),)), ("q", ("X",), (yes("b", "X"), ("unlike", "p", "X"), ("under", "p", 1))))
        self.assertEqual(mixed_of(rules), ["p"])

    def test_what_a_not_looks_at_is_plain(self):
        self.assertEqual(mixed_of(numbered(("p", (), (no("q"),)), ("q", (), (yes("r"),)))), ["p"])


class PlainFactsTest(unittest.TestCase):
    RULES = numbered(("p", ("X",), (yes("q", "X"),)), ("r", ("X",), (yes("p", "X"), no("s", "X"))),
                     ("t", ("X",), (yes("r", "X"),)), ("n", (("count",),), (yes("p", "X"),)))

    def test_of_a_mixed_book(self):
        told = [("q", (2,)), ("q", ("a",)), ("q", (1,)), ("r", (7,)), ("alone", ()), ("s", (1,)), ("p", (9,))]
        self.assertEqual(plain_facts(self.RULES, told),
                         [("alone", ()), ("p", (1,)), ("p", (2,)), ("p", (9,)), ("p", ("a",)), ("q", (1,)), ("q", (2,)),
                          ("q", ("a",)), ("s", (1,))])

    def test_of_no_rules_and_no_facts(self):
        self.assertEqual(plain_facts({}, [("q", (2,)), ("p", ())]), [("p", ()), ("q", (2,))])
        self.assertEqual(plain_facts(self.RULES, []), [])

    def test_too_many_counts_the_mixed_facts_too(self):
        rules = numbered(("p", ("X", "Y"), (yes("q", "X"), yes("q", "Y"), no("r"))))
        told = [("q", (number,)) for number in range(20)]
        self.assertEqual(plain_facts(rules, told[:19]), told[:19])
        self.assertRaises(TooMany, plain_facts, rules, told)

    def test_against_the_document_worked_plainly(self):
        for rules, told in books(23, 200):
            mixed = plain_mixed(rules)
            self.assertEqual(mixed_of(rules), mixed, rules)
            meaning = plain_meaning(rules, told, layers_of(rules))
            self.assertEqual(plain_facts(rules, told), [fact for fact in meaning if fact[0] not in mixed])

    def test_what_is_handed_in_stays_and_lists_are_new(self):
        rules, told = dict(self.RULES), [("q", (2,)), ("q", (1,))]
        mixed_of(rules).clear()
        plain_facts(rules, told).clear()
        self.assertEqual(mixed_of(rules), ["n", "r", "t"])
        self.assertEqual(plain_facts(rules, told), [("p", (1,)), ("p", (2,)), ("q", (1,)), ("q", (2,))])
        self.assertEqual((rules, told), (self.RULES, [("q", (2,)), ("q", (1,))]))


if __name__ == "__main__":
    unittest.main()
