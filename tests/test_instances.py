import itertools
import random
import unittest

from helper import no, numbered, plain_instances, plain_made, some_book, some_facts, yes
from reason.instances import instances_of, made_facts
from reason.meaning import meaning_of
from reason.terms import in_order

PATHS = numbered(("path", ("X", "Y"), (yes("edge", "X", "Y"),)),
                 ("path", ("X", "Z"), (yes("edge", "X", "Y"), yes("path", "Y", "Z"))))


def edge(one, other):
    return ("edge", (one, other))


def path(one, other):
    return ("path", (one, other))


class InstancesTest(unittest.TestCase):
    def test_by_two_rules(self):
        facts = [edge("a", "b"), edge("b", "b"), path("b", "b")]
        self.assertEqual(instances_of(PATHS, facts, path("a", "b")),
                         [(1, (edge("a", "b"),)), (2, (edge("a", "b"), path("b", "b")))])

    def test_a_fact_that_is_there_by_no_rule_has_none(self):
        self.assertEqual(instances_of(PATHS, [edge(1, 2)], edge(1, 2)), [])
        self.assertEqual(instances_of(PATHS, [path(1, 2)], path(1, 2)), [])
        self.assertEqual(instances_of({}, [path(1, 2)], path(1, 2)), [])
        self.assertEqual(instances_of(PATHS, [], path(1, 2)), [])

    def test_a_fact_that_is_not_there_may_have_one(self):
        self.assertEqual(instances_of(PATHS, [edge(1, 2)], path(1, 2)), [(1, (edge(1, 2),))])

    def test_a_fact_of_another_width_or_predicate_has_none(self):
        facts = [edge(1, 2), edge(2, 1), edge(1, 1)]
        for fact in (("path", (1,)), ("path", ()), ("path", (1, 2, 1)), ("way", (1, 2)), ("way", ())):
            self.assertEqual(instances_of(PATHS, facts, fact), [])

    def test_one_fact_used_twice(self):
        rules = numbered(("p", ("X",), (yes("q", "X"), yes("r", "Y"), yes("q", "X"))),
                         ("p", ("X",), (yes("q", "X"), yes("q", "Y"))))
        self.assertEqual(instances_of(rules, [("q", (1,)), ("r", (2,))], ("p", (1,))),
                         [(1, (("q", (1,)), ("r", (2,)), ("q", (1,)))), (2, (("q", (1,)), ("q", (1,))))])

    def test_used_facts_stand_in_the_order_of_the_literals(self):
        rules = numbered(("p", (), (no("off"), yes("z", "X"), ("unlike", "X", 5), yes("a", "Y"), ("under", "Y", "X"))))
        facts = [("a", (1,)), ("z", (2,)), ("z", (5,))]
        self.assertEqual(instances_of(rules, facts, ("p", ())), [(1, (("z", (2,)), ("a", (1,))))])
        self.assertEqual(instances_of(rules, facts + [("off", ())], ("p", ())), [])

    def test_sorted_by_number_then_by_used_facts(self):
        rules = {10: ("p", (), (yes("q", "X"), yes("q", "Y"))), 9: ("p", (), (yes("q", "Y"),)),
                 -1: ("p", (), (("under", 1, 2),)), 2: ("p", (), (yes("r"),))}
        places = [-10, 2, 10, "a", "b"]
        facts = [("q", (place,)) for place in ("b", 10, "a", 2, -10)]
        self.assertEqual(instances_of(rules, facts, ("p", ())),
                         [(-1, ())] + [(9, (("q", (place,)),)) for place in places]
                         + [(10, (("q", (one,)), ("q", (other,)))) for one in places for other in places])

    def test_numbers_come_ahead_of_names_in_used_facts_of_several_places(self):
        rules = numbered(("p", ("X",), (yes("q", "X", "Y"), yes("r", "Z"))))
        facts = [("q", (0, "a")), ("q", (0, 11)), ("q", (0, 2)), ("r", (3,)), ("r", (-3,)), ("q", (1, 1))]
        self.assertEqual(instances_of(rules, facts, ("p", (0,))),
                         [(1, (("q", (0, one)), ("r", (other,)))) for one in (2, 11, "a") for other in (-3, 3)])

    def test_a_rule_without_a_yes(self):
        rules = numbered(("p", ("a",), (no("q", 1),)), ("p", ("b",), (("under", 1, 2), ("unlike", "k", 1))),
                         ("p", ("a",), (("under", "a", 2),)))
        self.assertEqual(instances_of(rules, [], ("p", ("a",))), [(1, ())])
        self.assertEqual(instances_of(rules, [], ("p", ("b",))), [(2, ())])
        self.assertEqual(instances_of(rules, [("q", (1,))], ("p", ("a",))), [])

    def test_constants_and_repeated_variables_in_the_head(self):
        rules = numbered(("p", ("X", "k", "X"), (yes("q", "X", "Y"),)))
        facts = [("q", (1, 2)), ("q", (1, 3)), ("q", ("k", 4))]
        self.assertEqual(instances_of(rules, facts, ("p", (1, "k", 1))),
                         [(1, (("q", (1, 2)),)), (1, (("q", (1, 3)),))])
        self.assertEqual(instances_of(rules, facts, ("p", (1, 1, 1))), [])
        self.assertEqual(instances_of(rules, facts, ("p", (1, "k", "k"))), [])


class GroupTest(unittest.TestCase):
    FACTS = [("s", ("x", "a", 5)), ("s", ("x", "b", 5)), ("s", ("y", "a", "no")), ("s", ("z", "a", 0))]

    def instances(self, grouping, places, terms=("D",), body=(yes("s", "D", "M", "N"),)):
        return instances_of({4: ("g", terms + (grouping,), body)}, self.FACTS, ("g", places))

    def test_sum_least_count(self):
        self.assertEqual(self.instances(("sum", "N"), ("x", 10)), [(4, ())])
        self.assertEqual(self.instances(("sum", "N"), ("x", 5)), [])
        self.assertEqual(self.instances(("sum", "N"), ("z", 0)), [(4, ())])
        self.assertEqual(self.instances(("least", "N"), ("x", 5)), [(4, ())])
        self.assertEqual(self.instances(("least", "N"), ("x", 10)), [])
        self.assertEqual(self.instances(("count",), ("x", 2)), [(4, ())])
        self.assertEqual(self.instances(("count",), ("y", 1)), [(4, ())])
        self.assertEqual(self.instances(("count",), ("y", 0)), [])

    def test_a_group_without_numbers_gives_nothing(self):
        for place in (0, "no", 1):
            self.assertEqual(self.instances(("sum", "N"), ("y", place)), [])
            self.assertEqual(self.instances(("least", "N"), ("y", place)), [])

    def test_a_group_without_bindings_gives_nothing_not_even_a_count_of_0(self):
        for grouping in (("count",), ("sum", "N"), ("least", "N")):
            self.assertEqual(self.instances(grouping, ("w", 0)), [])
            self.assertEqual(self.instances(grouping, (0,), (), (yes("t", "N"),)), [])

    def test_facts_of_another_width(self):
        for places in ((), ("x",), (10,), ("x", "x", 10)):
            self.assertEqual(self.instances(("sum", "N"), places), [])
        self.assertEqual(self.instances(("count",), (), ()), [])
        self.assertEqual(self.instances(("count",), (4,), ()), [(4, ())])

    def test_the_grouped_variable_stands_among_the_others(self):
        self.assertEqual(self.instances(("sum", "N"), (5, 10), ("N",)), [(4, ())])
        self.assertEqual(self.instances(("least", "N"), (0, 0), ("N",)), [(4, ())])
        self.assertEqual(self.instances(("sum", "N"), ("no", 0), ("N",)), [])
        self.assertEqual(self.instances(("count",), ("no", 1), ("N",)), [(4, ())])

    def test_without_a_yes(self):
        self.assertEqual(self.instances(("count",), (1,), (), (no("t"),)), [(4, ())])
        self.assertEqual(self.instances(("count",), (0,), (), (("under", 2, 1),)), [])

    def test_beside_another_rule(self):
        rules = {2: ("g", (("count",),), (yes("q", "X"),)), 1: ("g", ("X",), (yes("q", "X"),)),
                 3: ("g", (("sum", "X"),), (yes("q", "X"),))}
        self.assertEqual(instances_of(rules, [("q", (2,)), ("q", (0,))], ("g", (2,))),
                         [(1, (("q", (2,)),)), (2, ()), (3, ())])


class MadeFactsTest(unittest.TestCase):
    def test_one_step_of_all_rules(self):
        facts = [edge(2, 3), edge(1, 2), path(3, "a")]
        self.assertEqual(made_facts(PATHS, facts), [path(1, 2), path(2, 3), path(2, "a")])
        self.assertEqual(made_facts({}, facts), [])
        self.assertEqual(made_facts(PATHS, []), [])

    def test_groups_and_nots(self):
        rules = numbered(("n", (("count",),), (yes("q", "X"),)), ("w", (), (no("q", 7),)), ("w", (), (no("q", 1),)))
        self.assertEqual(made_facts(rules, [("q", (1,)), ("q", (2,))]), [("n", (2,)), ("w", ())])
        self.assertEqual(made_facts(rules, []), [("w", ())])

    def test_each_once(self):
        rules = numbered(("p", (), (yes("q", "X"),)), ("p", (), (yes("q", 1),)))
        self.assertEqual(made_facts(rules, [("q", (1,)), ("q", (2,)), ("p", ())]), [("p", ())])

    def test_made_is_just_what_has_an_instance(self):
        chance = random.Random(14)
        for turn in range(60):
            rules, facts = some_book(chance, 4), some_facts(chance, 40)
            made = made_facts(rules, facts)
            self.assertEqual(made, in_order({fact for rule in rules.values() for fact in plain_made(rule, facts)}))
            for fact in {*made, *facts, *some_facts(chance, 6)}:
                self.assertEqual(fact in made, instances_of(rules, facts, fact) != [], (rules, facts, fact))


class PlainlyTest(unittest.TestCase):
    def test_against_the_document_worked_plainly(self):
        chance = random.Random(41)
        found = 0
        for turn in range(500):
            rules, facts = some_book(chance, 5), some_facts(chance, 50)
            for fact in {*made_facts(rules, facts), *some_facts(chance, 4)}:
                instances = instances_of(rules, facts, fact)
                self.assertEqual(instances, plain_instances(rules, facts, fact), (rules, facts, fact))
                found += len(instances)
        self.assertGreater(found, 500)

    def test_the_order_of_rules_and_facts_is_nothing(self):
        chance = random.Random(5)
        told = [edge(one, other) for one in (1, 2, "a") for other in (1, 2, "a")]
        meaning = meaning_of(PATHS, told)
        said = instances_of(PATHS, meaning, path(1, "a"))
        self.assertEqual(len(said), 4)
        for turn in range(10):
            mixed = chance.sample(meaning, len(meaning))
            self.assertEqual(instances_of({2: PATHS[2], 1: PATHS[1]}, mixed, path(1, "a")), said)


class BoundsTest(unittest.TestCase):
    def test_all_instances_of_a_wide_rule(self):
        body = (yes("e", "A", "B"), yes("e", "B", "C"), yes("e", "C", "D"), yes("e", "D", "A"))
        rules = numbered(("p", (), body), ("q", ("A",), body))
        facts = [("e", row) for row in itertools.product(range(12), repeat=2)]
        self.assertEqual(len(instances_of(rules, facts, ("p", ()))), 12 ** 4)
        used = instances_of(rules, facts, ("q", (3,)))
        self.assertEqual(len(used), 12 ** 3)
        self.assertEqual(used[1], (2, (("e", (3, 0)), ("e", (0, 0)), ("e", (0, 1)), ("e", (1, 3)))))


class UntouchedTest(unittest.TestCase):
    def test_what_is_handed_in_stays_and_lists_are_new(self):
        rules, facts = dict(PATHS), [edge("b", "c"), edge("a", "b"), path("b", "c")]
        instances = instances_of(rules, facts, path("a", "c"))
        made = made_facts(rules, facts)
        kept = (list(instances), list(made))
        instances.clear()
        made.clear()
        self.assertEqual((instances_of(rules, facts, path("a", "c")), made_facts(rules, facts)), kept)
        self.assertEqual((rules, facts), (PATHS, [edge("b", "c"), edge("a", "b"), path("b", "c")]))


if __name__ == "__main__":
    unittest.main()
