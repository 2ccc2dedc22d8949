import itertools
import random
import unittest

from helper import Agrees, books, edge, no, numbered, path, PATHS, plain_values, plain_web, some_values, yes
from reason.errors import NoMeasure, TooMany
from reason.plain import plain_facts
from reason.values import values_of

MEASURES = (("bits", 1), ("bits", 13), ("bits", 2 ** 99 - 1), ("chain", 1), ("chain", 9), ("chain", 10 ** 29),
            ("shares", 1), ("shares", 7), ("shares", 5040), ("shares", 2 ** 40 * 3 ** 30))


class ValuesTest(unittest.TestCase):
    def test_of_nothing(self):
        for measure in MEASURES:
            self.assertEqual(values_of({}, {}, measure), {})
            self.assertEqual(values_of(numbered(*PATHS), {}, measure), {})

    def test_told_facts_alone(self):
        self.assertEqual(values_of({}, {("p", ()): 4, ("q", (1,)): 0}, ("bits", 12)), {("p", ()): 4, ("q", (1,)): 0})

    def test_ways_are_met_and_joined(self):
        told = {edge(1, 2): 12, edge(2, 4): 10, edge(1, 3): 7, edge(3, 4): 5}
        self.assertEqual(values_of(numbered(*PATHS), told, ("bits", 15))[path(1, 4)], 12 & 10 | 7 & 5)
        self.assertEqual(values_of(numbered(*PATHS), told, ("chain", 15))[path(1, 4)], 10)
        shares = {edge(1, 2): 12, edge(2, 4): 10, edge(1, 3): 15, edge(3, 4): 20}
        self.assertEqual(values_of(numbered(*PATHS), shares, ("shares", 60))[path(1, 4)], 10)

    def test_a_told_fact_that_rules_give_too(self):
        told = {edge(1, 2): 6, path(1, 2): 9}
        self.assertEqual(values_of(numbered(*PATHS), told, ("bits", 15)), {edge(1, 2): 6, path(1, 2): 15})
        self.assertEqual(values_of(numbered(*PATHS), told, ("chain", 15)), {edge(1, 2): 6, path(1, 2): 9})
        self.assertEqual(values_of(numbered(*PATHS), told, ("shares", 18)), {edge(1, 2): 6, path(1, 2): 18})
        less = {edge(1, 2): 6, path(1, 2): 2}
        self.assertEqual(values_of(numbered(*PATHS), less, ("chain", 15)), {edge(1, 2): 6, path(1, 2): 6})

    def test_nought_and_top(self):
        for measure, nought in ((("bits", 6), 0), (("chain", 6), 0), (("shares", 6), 1)):
            told = {edge(1, 2): nought, edge(2, 3): 6, edge(3, 4): 6}
            said = values_of(numbered(*PATHS), told, measure)
            self.assertEqual((said[path(1, 2)], said[path(1, 3)], said[path(2, 4)]), (nought, nought, 6))

    def test_a_rule_without_a_yes_gives_top(self):
        rules = numbered(("p", (1,), (("under", 1, 2),)), ("p", (2,), (("under", 2, 1),)),
                         ("q", (), (yes("p", "X"), yes("r"))))
        for measure in MEASURES:
            top = measure[1]
            self.assertEqual(values_of(rules, {("r", ()): top}, measure),
                             {("p", (1,)): top, ("q", ()): top, ("r", ()): top})
        self.assertEqual(values_of(rules, {("r", ()): 3}, ("chain", 9))[("q", ())], 3)

    def test_a_fact_used_twice_is_met_once(self):
        rules = numbered(("p", (), (yes("q"), yes("q"), yes("q"))))
        self.assertEqual(values_of(rules, {("q", ()): 6}, ("shares", 36)), {("q", ()): 6, ("p", ()): 6})

    def test_rules_that_lean_on_themselves(self):
        rules = numbered(("p", ("X",), (yes("p", "X"),)), ("p", ("Y",), (yes("p", "X"), yes("s", "X", "Y"))))
        told = {("p", (1,)): 6, ("s", (1, 2)): 5, ("s", (2, 1)): 7, ("s", (2, 3)): 12}
        self.assertEqual(values_of(rules, told, ("bits", 15)), {**told, ("p", (2,)): 4, ("p", (3,)): 4})
        self.assertEqual(values_of(rules, told, ("chain", 15)), {**told, ("p", (2,)): 5, ("p", (3,)): 5})

    def test_rules_that_lean_on_one_another(self):
        rules = numbered(("p", (), (yes("q"),)), ("q", (), (yes("p"),)), ("q", (), (yes("r"), yes("s"))))
        told = {("p", ()): 4, ("r", ()): 6, ("s", ()): 10}
        self.assertEqual(values_of(rules, told, ("shares", 60)), {**told, ("p", ()): 4, ("q", ()): 4})
        self.assertEqual(values_of(rules, {**told, ("s", ()): 3}, ("shares", 60))[("p", ())], 12)

    def test_a_longer_way_that_is_wider(self):
        told = {edge(1, 5): 2, **{edge(number, number + 1): 9 - number for number in range(1, 5)}}
        self.assertEqual(values_of(numbered(*PATHS), told, ("chain", 9))[path(1, 5)], 5)

    def test_told_facts_that_are_not_plain(self):
        rules = numbered(("p", ("X",), (yes("q", "X"), no("r", "X"))), ("s", ("X",), (yes("p", "X"),)),
                         ("n", (("count",),), (yes("q", "X"),)), ("t", ("X",), (yes("q", "X"),)))
        told = {("q", (1,)): 3, ("p", (1,)): 2, ("s", (7,)): 1, ("n", (4,)): 1, ("w", ()): 2}
        self.assertEqual(values_of(rules, told, ("chain", 3)), {("q", (1,)): 3, ("t", (1,)): 3, ("w", ()): 2})


class RefusedTest(unittest.TestCase):
    WRONG = (None, True, "bits", ("bits",), ["bits", 3], ("bits", 0), ("chain", -1), ("shares", True), ("sum", 3),
             ("bits", 3, 3), (3, "bits"), Agrees(), ("bits", None), ())

    def test_no_measure(self):
        for thing in self.WRONG:
            self.assertRaises(NoMeasure, values_of, numbered(*PATHS), {edge(1, 2): 1}, thing)

    def test_too_many_behind_no_measure_alone(self):
        rules = numbered(("p", ("X", "Y"), (yes("q", "X"), yes("q", "Y"), no("r"))))
        told = {("q", (number,)): 1 for number in range(20)}
        self.assertRaises(TooMany, values_of, rules, told, ("bits", 1))
        for thing in self.WRONG:
            self.assertRaises(NoMeasure, values_of, rules, told, thing)
        told.pop(("q", (0,)))
        self.assertEqual(values_of(rules, told, ("bits", 1)), told)


class PlainlyTest(unittest.TestCase):
    def test_against_the_document_worked_plainly(self):
        chance = random.Random(27)
        made = 0
        for rules, told in books(27, 200):
            web = plain_web(rules, told)
            for measure in chance.sample(MEASURES, 3):
                told_values = some_values(chance, told, measure)
                said = values_of(rules, told_values, measure)
                self.assertEqual(said, plain_values(web, told_values, measure), (rules, told_values, measure))
                self.assertEqual(set(said), set(plain_facts(rules, told)))
                made += len([fact for fact in said if fact not in told])
        self.assertGreater(made, 500)

    def test_of_graphs(self):
        chance = random.Random(28)
        rules = numbered(*PATHS, ("path", ("X", "Z"), (yes("path", "X", "Y"), yes("path", "Y", "Z"))))
        for turn in range(30):
            edges = {edge(chance.randrange(6), chance.randrange(6)): True for time in range(12)}
            web = plain_web(rules, list(edges))
            for measure in (("bits", 255), ("chain", 50), ("shares", 2310)):
                told_values = some_values(chance, edges, measure)
                self.assertEqual(values_of(rules, told_values, measure), plain_values(web, told_values, measure))


class BoundsTest(unittest.TestCase):
    def test_wide_rules(self):
        told = {("e", row): 2 ** sum(row) for row in itertools.product(range(12), repeat=2)}
        body = (yes("e", "A", "B"), yes("e", "B", "C"), yes("e", "C", "D"), yes("e", "D", "A"))
        rules = {number: ("p", ("A", number), body) for number in range(1, 11)}
        said = values_of(rules, told, ("shares", 2 ** 90))
        self.assertEqual(said[("p", (5, 7))], 2 ** 16)

    def test_wide_rules_that_lean_on_themselves(self):
        body = (yes("r", "A", "B"), yes("r", "B", "C"), yes("r", "C", "D"))
        rules = numbered(("r", ("X", "Y"), (yes("e", "X", "Y"),)),
                         *[("r", ("A", last), (*body, yes("r", "D", last))) for last in range(12)])
        told = {("e", (number, (number + 1) % 12)): 100 - number for number in range(12)}
        said = values_of(rules, {**told, ("e", (0, 5)): 50, ("e", (3, 1)): 60}, ("chain", 100))
        # Each way has three steps more than one or as many times three: the way of five steps is none.
        self.assertEqual((said[("r", (0, 4))], said[("r", (0, 5))], said[("r", (5, 0))]), (97, 50, 89))

    def test_long_chains(self):
        told = {("s", (number, number + 1)): 1000 - number for number in range(199)}
        told[("p", (0,))] = 2000
        rules = numbered(("p", ("Y",), (yes("p", "X"), yes("s", "X", "Y"))))
        said = values_of(rules, told, ("chain", 5000))
        self.assertEqual([said[("p", (number,))] for number in (0, 1, 199)], [2000, 1000, 802])


class UntouchedTest(unittest.TestCase):
    def test_what_is_handed_in_stays_and_the_dict_is_new(self):
        rules, told = numbered(*PATHS), {edge(1, 2): 3, path(1, 2): 4}
        said = values_of(rules, told, ("bits", 7))
        self.assertEqual(said, {edge(1, 2): 3, path(1, 2): 7})
        said.clear()
        self.assertEqual(len(values_of(rules, told, ("bits", 7))), 2)
        self.assertEqual((rules, told), (numbered(*PATHS), {edge(1, 2): 3, path(1, 2): 4}))
        alone = values_of({}, told, ("bits", 7))
        alone[edge(1, 2)] = 0
        self.assertEqual(told[edge(1, 2)], 3)


if __name__ == "__main__":
    unittest.main()
