import random
import unittest

from helper import bound_in, no, plain_group_facts, some_body, some_facts, some_terms, yes
from reason.groups import group_facts

SALES = [("sale", ("x", "jan", 5)), ("sale", ("x", "feb", 5)), ("sale", ("x", "mar", -2)), ("sale", ("y", "jan", 7)),
         ("sale", ("y", "feb", "none")), ("sale", ("z", "jan", "lots")), ("sale", ("z", "feb", "none"))]
BODY = (yes("sale", "D", "M", "N"),)


class GroupsTest(unittest.TestCase):
    def test_sum(self):
        self.assertEqual(group_facts(("total", ("D", ("sum", "N")), BODY), SALES),
                         [("total", ("x", 8)), ("total", ("y", 7))])

    def test_a_number_that_comes_by_two_bindings_counts_twice(self):
        body = (yes("sale", "D", "M", "N"), ("under", 0, "N"))
        self.assertEqual(group_facts(("total", ("D", ("sum", "N")), body), SALES),
                         [("total", ("x", 10)), ("total", ("y", 7))])

    def test_bindings_of_all_variables_of_the_body(self):
        facts = [("p", ("a", 3)), ("q", (1,)), ("q", (2,)), ("q", ("k",))]
        body = (yes("p", "X", "N"), yes("q", "Y"))
        self.assertEqual(group_facts(("s", ("X", ("sum", "N")), body), facts), [("s", ("a", 9))])
        self.assertEqual(group_facts(("s", ("X", ("count",)), body), facts), [("s", ("a", 3))])
        self.assertEqual(group_facts(("s", ("X", ("least", "N")), body), facts), [("s", ("a", 3))])

    def test_least(self):
        self.assertEqual(group_facts(("few", ("D", ("least", "N")), BODY), SALES),
                         [("few", ("x", -2)), ("few", ("y", 7))])

    def test_count_takes_names_too(self):
        self.assertEqual(group_facts(("many", ("D", ("count",)), BODY), SALES),
                         [("many", ("x", 3)), ("many", ("y", 2)), ("many", ("z", 2))])

    def test_one_group_of_all(self):
        self.assertEqual(group_facts(("total", (("sum", "N"),), BODY), SALES), [("total", (15,))])
        self.assertEqual(group_facts(("total", (("count",),), BODY), SALES), [("total", (7,))])
        self.assertEqual(group_facts(("total", ("a", 3, ("least", "N")), BODY), SALES), [("total", ("a", 3, -2))])

    def test_groups_by_three_terms(self):
        self.assertEqual(group_facts(("t", ("D", 1, "D", ("sum", "N")), BODY), SALES),
                         [("t", ("x", 1, "x", 8)), ("t", ("y", 1, "y", 7))])

    def test_the_grouped_variable_among_the_other_terms(self):
        self.assertEqual(group_facts(("t", ("N", ("sum", "N")), BODY), SALES),
                         [("t", (-2, -2)), ("t", (5, 10)), ("t", (7, 7))])

    def test_no_binding_no_fact(self):
        for last in (("sum", "N"), ("least", "N"), ("count",)):
            self.assertEqual(group_facts(("t", (last,), BODY), []), [])
            self.assertEqual(group_facts(("t", ("D", last), BODY), [("sale", ("x", 1))]), [])

    def test_no_whole_number_no_fact(self):
        for kind in ("sum", "least"):
            self.assertEqual(group_facts(("t", ((kind, "D"),), BODY), SALES), [])

    def test_a_sum_of_nought_is_a_fact(self):
        body = (yes("p", "N"),)
        self.assertEqual(group_facts(("t", (("sum", "N"),), body), [("p", (3,)), ("p", (-3,))]), [("t", (0,))])
        self.assertEqual(group_facts(("t", (("least", "N"),), body), [("p", (3,)), ("p", (0,))]), [("t", (0,))])

    def test_large_sums(self):
        most = 10 ** 30 - 1
        facts = [("p", ("a", most)), ("p", ("b", most)), ("p", ("c", 1))]
        self.assertEqual(group_facts(("t", (("sum", "N"),), (yes("p", "X", "N"),)), facts), [("t", (2 * most + 1,))])

    def test_a_body_without_variables(self):
        self.assertEqual(group_facts(("t", (("count",),), (no("p"),)), []), [("t", (1,))])
        self.assertEqual(group_facts(("t", (("count",),), (no("p"),)), [("p", ())]), [])
        self.assertEqual(group_facts(("t", ("a", ("count",)), (("under", 1, 2),)), []), [("t", ("a", 1))])

    def test_sorted(self):
        facts = [("p", (place, 1)) for place in ("b", 10, "a", -1, 9)]
        self.assertEqual(group_facts(("t", ("X", ("count",)), (yes("p", "X", "N"),)), facts),
                         [("t", (place, 1)) for place in (-1, 9, 10, "a", "b")])

    def test_against_every_binding_tried(self):
        chance = random.Random(11)
        for turn in range(400):
            facts, body = some_facts(chance, 20), some_body(chance)
            bound = bound_in(body)
            lasts = [("count",)] + [(kind, variable) for kind in ("sum", "least") for variable in bound]
            rule = ("t", some_terms(chance, chance.randint(0, 2), bound) + (chance.choice(lasts),), body)
            self.assertEqual(group_facts(rule, facts), plain_group_facts(rule, facts), (rule, facts))

    def test_what_is_handed_in_stays_and_the_list_is_new(self):
        facts, rule = list(SALES), ("many", ("D", ("count",)), BODY)
        told = group_facts(rule, facts)
        kept = list(told)
        told.clear()
        self.assertEqual(group_facts(rule, facts), kept)
        self.assertEqual(facts, SALES)


if __name__ == "__main__":
    unittest.main()
