import itertools
import random
import unittest

from helper import books, edge, no, numbered, path, PATHS, plain_costs, plain_web, yes
from reason.costs import costs_of
from reason.errors import TooMany
from reason.plain import plain_facts


class CostsTest(unittest.TestCase):
    def test_of_nothing(self):
        self.assertEqual(costs_of({}, {}, {}), {})
        self.assertEqual(costs_of(numbered(*PATHS), {}, {1: 1, 2: 1}), {})

    def test_told_facts_alone(self):
        self.assertEqual(costs_of({}, {("p", ()): 0, ("q", (1,)): 10 ** 29}, {}), {("p", ()): 0, ("q", (1,)): 10 ** 29})

    def test_a_price_and_the_used_facts(self):
        self.assertEqual(costs_of(numbered(*PATHS), {edge(1, 2): 5, edge(2, 3): 0}, {1: 10, 2: 100}),
                         {edge(1, 2): 5, edge(2, 3): 0, path(1, 2): 15, path(2, 3): 10, path(1, 3): 115})

    def test_the_least_of_several_ways(self):
        costs = {edge(1, 2): 1, edge(2, 3): 1, edge(1, 3): 9}
        self.assertEqual(costs_of(numbered(*PATHS), costs, {1: 1, 2: 1})[path(1, 3)], 4)
        costs = {edge(1, 2): 1, edge(2, 3): 1, edge(1, 3): 2}
        self.assertEqual(costs_of(numbered(*PATHS), costs, {1: 1, 2: 1})[path(1, 3)], 3)

    def test_a_told_fact_that_a_rule_gives_for_less_or_for_more(self):
        for told, cost in ((9, 3), (3, 3), (2, 2), (0, 0)):
            self.assertEqual(costs_of(numbered(PATHS[0]), {edge(1, 2): 2, path(1, 2): told}, {1: 1}),
                             {edge(1, 2): 2, path(1, 2): cost})

    def test_a_used_fact_counts_as_often_as_it_is_used(self):
        rules = numbered(("p", ("X",), (yes("q", "X"), yes("q", "X"))),
                         ("r", (), (yes("q", "X"), yes("q", "Y"), yes("q", "Y"))))
        self.assertEqual(costs_of(rules, {("q", (1,)): 7, ("q", (2,)): 8}, {1: 1, 2: 2}),
                         {("q", (1,)): 7, ("q", (2,)): 8, ("p", (1,)): 15, ("p", (2,)): 17, ("r", ()): 23})

    def test_what_is_used_by_several_used_facts_counts_for_each(self):
        rules = numbered(("a", (), (yes("d"),)), ("b", (), (yes("d"),)), ("c", (), (yes("a"), yes("b"), yes("d"))))
        self.assertEqual(costs_of(rules, {("d", ()): 10}, {1: 1, 2: 2, 3: 3})[("c", ())], 3 + 11 + 12 + 10)

    def test_rules_that_lean_on_themselves_and_on_one_another(self):
        rules = numbered(("p", ("X",), (yes("p", "X"),)), ("p", ("Y",), (yes("p", "X"), yes("s", "X", "Y"))))
        costs = {("p", (1,)): 4, ("s", (1, 2)): 1, ("s", (2, 1)): 1, ("s", (2, 3)): 0}
        self.assertEqual(costs_of(rules, costs, {1: 1, 2: 1}), {**costs, ("p", (2,)): 6, ("p", (3,)): 7})
        rules = numbered(("p", (), (yes("q"),)), ("q", (), (yes("p"),)), ("q", (), (yes("r"),)))
        self.assertEqual(costs_of(rules, {("p", ()): 50, ("r", ()): 1}, {1: 2, 2: 1, 3: 1}),
                         {("r", ()): 1, ("q", ()): 2, ("p", ()): 4})
        self.assertEqual(costs_of(rules, {("p", ()): 3, ("r", ()): 9}, {1: 2, 2: 1, 3: 1}),
                         {("r", ()): 9, ("q", ()): 4, ("p", ()): 3})

    def test_a_way_that_is_longer_and_cheaper(self):
        costs = {edge(1, 5): 100, **{edge(number, number + 1): 0 for number in range(1, 5)}}
        self.assertEqual(costs_of(numbered(*PATHS), costs, {1: 1, 2: 3})[path(1, 5)], 10)
        self.assertEqual(costs_of(numbered(*PATHS), costs, {1: 1, 2: 40})[path(1, 5)], 101)

    def test_rules_without_a_yes_and_with_guards(self):
        rules = numbered(("p", ("a",), (("under", 1, 2),)), ("p", ("b",), (("unlike", 1, 1),)),
                         ("q", ("X",), (("under", 0, 1), yes("p", "X"), ("unlike", "X", "b"))),
                         ("p", ("c",), (yes("q", "a"),)))
        self.assertEqual(costs_of(rules, {}, {1: 6, 2: 1, 3: 2, 4: 1}),
                         {("p", ("a",)): 6, ("q", ("a",)): 8, ("p", ("c",)): 9, ("q", ("c",)): 11})

    def test_mixed_facts_have_none(self):
        rules = numbered(("p", ("X",), (yes("q", "X"), no("r", "X"))), ("s", ("X",), (yes("p", "X"),)),
                         ("n", (("count",),), (yes("t", "X"),)), ("t", ("X",), (yes("q", "X"),)),
                         ("r", (9,), (yes("q", 1),)))
        costs = {("q", (1,)): 3, ("p", (1,)): 1, ("p", (5,)): 1, ("s", (6,)): 2, ("n", (0,)): 1, ("w", ()): 7}
        self.assertEqual(costs_of(rules, costs, {1: 1, 2: 1, 3: 1, 4: 1, 5: 2}),
                         {("q", (1,)): 3, ("t", (1,)): 4, ("r", (9,)): 5, ("w", ()): 7})

    def test_too_many(self):
        rules = numbered(("p", ("X", "Y"), (yes("q", "X"), yes("q", "Y"), no("r"))))
        costs = {("q", (number,)): 1 for number in range(20)}
        self.assertRaises(TooMany, costs_of, rules, costs, {1: 1})
        costs.pop(("q", (0,)))
        self.assertEqual(costs_of(rules, costs, {1: 1}), costs)
        plain = numbered(("p", ("X", "Y"), (yes("q", "X"), yes("q", "Y"))))
        self.assertEqual(len(costs_of(plain, costs, {1: 1})), 380)
        self.assertRaises(TooMany, costs_of, plain, {**costs, ("q", (0,)): 1}, {1: 1})

    def test_numbers_of_any_length(self):
        costs = {edge(1, 2): 10 ** 29, edge(2, 3): 10 ** 29 + 1}
        self.assertEqual(costs_of(numbered(*PATHS), costs, {1: 10 ** 29, 2: 1})[path(1, 3)], 3 * 10 ** 29 + 2)


class PlainlyTest(unittest.TestCase):
    def test_against_the_document_worked_plainly(self):
        chance = random.Random(24)
        made = 0
        for rules, told in books(24, 250):
            told_costs = {fact: chance.choice((0, 0, 1, 2, 5, 40)) for fact in told}
            prices = {number: chance.choice((1, 1, 2, 9)) for number in rules}
            costs = costs_of(rules, told_costs, prices)
            web = plain_web(rules, told)
            self.assertEqual(costs, plain_costs(web, told_costs, prices), (rules, told_costs, prices))
            self.assertEqual(set(costs), set(plain_facts(rules, told)))
            made += len([fact for fact in costs if fact not in told])
        self.assertGreater(made, 200)

    def test_of_graphs(self):
        chance = random.Random(25)
        for turn in range(30):
            told_costs = {edge(chance.randrange(6), chance.randrange(6)): chance.randrange(9) for time in range(12)}
            prices = {1: chance.randint(1, 3), 2: chance.randint(1, 3), 3: chance.randint(1, 9)}
            rules = numbered(*PATHS, ("path", ("X", "Z"), (yes("path", "X", "Y"), yes("path", "Y", "Z"))))
            web = plain_web(rules, list(told_costs))
            self.assertEqual(costs_of(rules, told_costs, prices), plain_costs(web, told_costs, prices))


class BoundsTest(unittest.TestCase):
    def test_wide_rules(self):
        told_costs = {("e", row): sum(row) for row in itertools.product(range(12), repeat=2)}
        body = (yes("e", "A", "B"), yes("e", "B", "C"), yes("e", "C", "D"), yes("e", "D", "A"))
        rules = {number: ("p", ("A", number), body) for number in range(1, 16)}
        costs = costs_of(rules, told_costs, {number: number for number in rules})
        self.assertEqual(len(costs), 144 + 15 * 12)
        self.assertEqual(costs[("p", (5, 7))], 7 + 10)

    def test_long_chains(self):
        told_costs = {("s", (number, number + 1)): 1 for number in range(199)}
        told_costs[("p", (0,))] = 0
        rules = numbered(("p", ("Y",), (yes("p", "X"), yes("s", "X", "Y"))))
        self.assertEqual(costs_of(rules, told_costs, {1: 1})[("p", (199,))], 398)


class UntouchedTest(unittest.TestCase):
    def test_what_is_handed_in_stays_and_the_dict_is_new(self):
        rules, told_costs, prices = numbered(*PATHS), {edge(1, 2): 3, path(1, 2): 90}, {1: 1, 2: 1}
        costs = costs_of(rules, told_costs, prices)
        self.assertEqual(costs, {edge(1, 2): 3, path(1, 2): 4})
        costs.clear()
        self.assertEqual(len(costs_of(rules, told_costs, prices)), 2)
        self.assertEqual((rules, told_costs, prices), (numbered(*PATHS), {edge(1, 2): 3, path(1, 2): 90}, {1: 1, 2: 1}))
        alone = costs_of({}, told_costs, {})
        self.assertEqual(alone, told_costs)
        alone[edge(1, 2)] = 7
        self.assertEqual(told_costs[edge(1, 2)], 3)


if __name__ == "__main__":
    unittest.main()
