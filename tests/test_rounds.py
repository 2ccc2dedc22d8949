import itertools
import random
import unittest

from helper import books, no, numbered, plain_instances, plain_meaning, plain_takes, yes
from reason.errors import Ring, TooMany
from reason.layers import layers_of
from reason.papers import facts_of, takes
from reason.rounds import worked_paper
from reason.terms import in_order

TOLD = ("told",)
PATHS = (("path", ("X", "Y"), (yes("edge", "X", "Y"),)),
         ("path", ("X", "Z"), (yes("edge", "X", "Y"), yes("path", "Y", "Z"))))


def facts(predicate, *rows):
    return [(predicate, row) for row in rows]


def rounds_of(rules, told, layers, meaning):
    """The round of its layer in which each fact of the meaning comes, by all its instances."""
    rounds = {fact: 0 for fact in told}
    instances = {fact: plain_instances(rules, meaning, fact) for fact in meaning}
    grows = True
    while grows:
        grows = False
        for fact in meaning:
            for number, used in instances[fact]:
                own = [one for one in used if layers.get(one[0], 0) == layers.get(fact[0], 0)]
                if all(one in rounds for one in own):
                    came = max([-1] + [rounds[one] for one in own]) + 1
                    if came < rounds.get(fact, came + 1):
                        rounds[fact] = came
                        grows = True
    return rounds


class OrdinaryTest(unittest.TestCase):
    def test_of_nothing(self):
        self.assertEqual(worked_paper({}, []), [])
        self.assertEqual(worked_paper(numbered(*PATHS), []), [])

    def test_told_facts_alone(self):
        told = [("q", ()), ("p", ("a",)), ("p", (2,))]
        self.assertEqual(worked_paper({}, told), [(fact, 0, TOLD) for fact in in_order(told)])

    def test_a_rule_that_leans_on_itself(self):
        told = facts("edge", ("a", "b"), ("b", "c"), ("c", "d"))
        ab, bc, cd = told
        self.assertEqual(worked_paper(numbered(*PATHS), told), [
            (ab, 0, TOLD), (bc, 0, TOLD), (cd, 0, TOLD),
            (("path", ("a", "b")), 1, ("rule", 1, (ab,))),
            (("path", ("a", "c")), 2, ("rule", 2, (ab, ("path", ("b", "c"))))),
            (("path", ("a", "d")), 3, ("rule", 2, (ab, ("path", ("b", "d"))))),
            (("path", ("b", "c")), 1, ("rule", 1, (bc,))),
            (("path", ("b", "d")), 2, ("rule", 2, (bc, ("path", ("c", "d"))))),
            (("path", ("c", "d")), 1, ("rule", 1, (cd,)))])

    def test_rules_that_lean_on_one_another(self):
        rules = numbered(("odd", ("Y",), (yes("even", "X"), yes("step", "X", "Y"))),
                         ("even", ("Y",), (yes("odd", "X"), yes("step", "X", "Y"))))
        steps = facts("step", (0, 1), (1, 2), (2, 0))
        paper = worked_paper(rules, steps + [("even", (0,))])
        self.assertEqual([entry for entry in paper if entry[0][0] != "step"], [
            (("even", (0,)), 0, TOLD),
            (("even", (1,)), 4, ("rule", 2, (("odd", (0,)), steps[0]))),
            (("even", (2,)), 2, ("rule", 2, (("odd", (1,)), steps[1]))),
            (("odd", (0,)), 3, ("rule", 1, (("even", (2,)), steps[2]))),
            (("odd", (1,)), 1, ("rule", 1, (("even", (0,)), steps[0]))),
            (("odd", (2,)), 5, ("rule", 1, (("even", (1,)), steps[1])))])

    def test_nots_and_groups_in_layers(self):
        rules = numbered(("n", (("count",),), (yes("p", "X"),)), ("p", ("X",), (yes("q", "X"), no("r", "X"))),
                         ("p", ("Y",), (yes("p", "X"), yes("s", "X", "Y"))),
                         ("big", (), (yes("n", "N"), ("under", 1, "N"))), ("off", (), (no("big"),)))
        told = facts("q", (1,), (2,)) + facts("r", (2,)) + facts("s", (1, 3))
        paper = worked_paper(rules, told)
        self.assertEqual([entry for entry in paper if entry[0] not in told], [
            (("big", ()), 1, ("rule", 4, (("n", (2,)),))),
            (("n", (2,)), 0, ("group", 1)),
            (("p", (1,)), 0, ("rule", 2, (("q", (1,)),))),
            (("p", (3,)), 1, ("rule", 3, (("p", (1,)), ("s", (1, 3)))))])
        self.assertIs(takes(rules, told, paper), True)

    def test_a_rule_without_a_yes(self):
        rules = numbered(("p", ("a",), (("under", 1, 2),)), ("p", ("b",), (no("q"),)), ("n", (("count",),), (no("q"),)))
        self.assertEqual(worked_paper(rules, []), [
            (("n", (1,)), 0, ("group", 3)), (("p", ("a",)), 0, ("rule", 1, ())), (("p", ("b",)), 0, ("rule", 2, ()))])

    def test_a_told_fact_that_a_rule_gives_too(self):
        rules = numbered(("p", ("X",), (yes("q", "X"),)), ("n", (("count",),), (yes("q", "X"),)),
                         ("w", (), (no("v"),)))
        told = facts("n", (1,)) + facts("p", (1,)) + facts("q", (1,)) + [("w", ())]
        self.assertEqual(worked_paper(rules, told), [(fact, 0, TOLD) for fact in told])

    def test_with_a_ring_there_is_none(self):
        self.assertRaises(Ring, worked_paper, numbered(("p", (), (no("p"),))), [])


class BoundsTest(unittest.TestCase):
    def test_four_hundred_facts_and_one_more(self):
        told = facts("p", *[(number,) for number in range(400)])
        self.assertEqual(len(worked_paper({}, told)), 400)
        self.assertRaises(TooMany, worked_paper, {}, told + [("q", ())])

    def test_too_many_by_rounds_groups_and_told_facts_of_an_upper_layer(self):
        rules = numbered(("p", ("Y",), (yes("p", "X"), yes("s", "X", "Y"))))
        told = facts("s", *[(number, number + 1) for number in range(199)]) + [("p", (0,))]
        self.assertEqual(len(worked_paper(rules, told)), 399)
        counted = {**rules, 2: ("n", (("count",),), (yes("p", "X"),))}
        paper = worked_paper(counted, told)
        self.assertEqual(len(paper), 400)
        self.assertIs(takes(counted, told, paper), True)
        self.assertRaises(TooMany, worked_paper, counted, told + [("n", (5,))])
        self.assertEqual(len(worked_paper(counted, told + [("n", (200,))])), 400)

    def test_at_the_bounds_of_rules_and_bindings(self):
        told = facts("e", *itertools.product(range(12), repeat=2))
        body = (yes("e", "A", "B"), yes("e", "B", "C"), yes("e", "C", "D"), yes("e", "D", "A"))
        rules = {number: ("p", ("A", number % 12), body) for number in range(1, 16)}
        rules.update({number: ("n", (number, ("count",)), body) for number in range(16, 31)})
        paper = worked_paper(rules, told)
        self.assertEqual(len(paper), 144 + 144 + 15)
        self.assertIs(takes(rules, told, paper), True)


class PlainlyTest(unittest.TestCase):
    def test_the_checker_takes_what_is_worked(self):
        made = 0
        for rules, told in books(17, 120):
            layers = layers_of(rules)
            paper = worked_paper(rules, told)
            meaning = plain_meaning(rules, told, layers)
            self.assertEqual([fact for fact, rank, reason in paper], meaning, (rules, told))
            self.assertIs(takes(rules, told, paper), True, (rules, told))
            self.assertIs(plain_takes(rules, told, paper), True, (rules, told))
            rounds = rounds_of(rules, told, layers, meaning)
            for fact, rank, reason in paper:
                self.assertEqual(reason == TOLD, fact in told)
                self.assertEqual(rank, rounds[fact], (rules, told, fact))
            made += len(meaning) - len(told)
        self.assertGreater(made, 200)

    def test_the_order_of_rules_and_facts_is_nothing(self):
        chance = random.Random(8)
        rules = {3: ("n", ("X", ("count",)), (yes("path", "X", "Y"), no("q", "Y"))), 7: PATHS[0], 5: PATHS[1],
                 4: ("path", ("X", "Z"), (yes("path", "X", "Y"), yes("path", "Y", "Z")))}
        told = facts("edge", (1, 2), (2, 3), (3, 1), ("a", 1), ("a", 2)) + [("q", (2,))]
        said = worked_paper(rules, told)
        for turn in range(20):
            numbers = chance.sample(sorted(rules), len(rules))
            self.assertEqual(worked_paper({number: rules[number] for number in numbers},
                                          chance.sample(told, len(told))), said)


class UntouchedTest(unittest.TestCase):
    def test_what_is_handed_in_stays_and_the_list_is_new(self):
        rules, told = numbered(*PATHS), facts("edge", ("b", "c"), ("a", "b"))
        paper = worked_paper(rules, told)
        kept = list(paper)
        paper.clear()
        self.assertEqual(worked_paper(rules, told), kept)
        self.assertEqual(facts_of(kept)[:2], told[::-1])
        self.assertEqual((rules, told), (numbered(*PATHS), facts("edge", ("b", "c"), ("a", "b"))))


if __name__ == "__main__":
    unittest.main()
