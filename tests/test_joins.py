import copy
import itertools
import random
import unittest

from helper import no, plain_bindings, some_body, some_facts, variables_of, yes
from reason.errors import NoPlan
from reason.joins import bindings_of, joined_by

EDGES = [("edge", ("b", "c")), ("edge", ("a", "b")), ("edge", (2, "b")), ("edge", ("c", 10)), ("edge", (10, 9))]


def is_plan(body, plan):
    """Whether an order of all literals is a plan, by the words of the document."""
    for spot, number in enumerate(plan):
        ahead = variables_of([body[other] for other in plan[:spot] if body[other][0] == "yes"])
        if body[number][0] != "yes" and not set(variables_of([body[number]])) <= set(ahead):
            return False
    return True


class BindingsTest(unittest.TestCase):
    def test_one_yes(self):
        self.assertEqual(bindings_of((yes("edge", "X", "Y"),), EDGES),
                         [{"X": 2, "Y": "b"}, {"X": 10, "Y": 9}, {"X": "a", "Y": "b"}, {"X": "b", "Y": "c"},
                          {"X": "c", "Y": 10}])

    def test_joined_by_a_shared_variable(self):
        self.assertEqual(bindings_of((yes("edge", "X", "Y"), yes("edge", "Y", "Z")), EDGES),
                         [{"X": 2, "Y": "b", "Z": "c"}, {"X": "a", "Y": "b", "Z": "c"}, {"X": "b", "Y": "c", "Z": 10},
                          {"X": "c", "Y": 10, "Z": 9}])

    def test_variable_by_variable_in_the_order_of_texts(self):
        facts = [("p", (1, "a")), ("p", (2, 3)), ("p", (3, 3)), ("p", ("a", -1))]
        self.assertEqual(bindings_of((yes("p", "Y", "X"),), facts),
                         [{"X": -1, "Y": "a"}, {"X": 3, "Y": 2}, {"X": 3, "Y": 3}, {"X": "a", "Y": 1}])
        self.assertEqual(bindings_of((yes("p", "Xa", "XB"),), facts),
                         [{"XB": -1, "Xa": "a"}, {"XB": 3, "Xa": 2}, {"XB": 3, "Xa": 3}, {"XB": "a", "Xa": 1}])

    def test_numbers_ahead_of_names_and_by_size(self):
        facts = [("p", (place,)) for place in ("b", 10, "aa", 9, -3, "a", -20)]
        self.assertEqual([row["X"] for row in bindings_of((yes("p", "X"),), facts)], [-20, -3, 9, 10, "a", "aa", "b"])

    def test_without_variables(self):
        for body, said in (((yes("edge", "a", "b"),), [{}]), ((yes("edge", "a", "c"),), []),
                           ((no("edge", 1, 2),), [{}]), ((no("edge", "a", "b"),), []),
                           ((("under", 1, 2),), [{}]), ((("under", 2, 1),), []), ((("under", 1, "a"),), []),
                           ((("unlike", 1, "a"),), [{}]), ((("unlike", "a", "a"),), []),
                           ((yes("edge", "a", "b"), no("p"), ("under", -1, 0), ("unlike", "a", "b")), [{}])):
            self.assertEqual(bindings_of(body, EDGES), said, body)
            self.assertEqual(joined_by(body, list(range(len(body))), EDGES), said, body)
        self.assertEqual(bindings_of((no("p"),), []), [{}])
        self.assertEqual(bindings_of((yes("p"),), []), [])

    def test_guards_of_constants_ahead(self):
        for guard, holds in ((no("edge", "a", "a"), True), (no("edge", "a", "b"), False), (("under", 1, 2), True),
                             (("under", 1, 1), False), (("unlike", "a", 1), True), (("unlike", 1, 1), False)):
            said = [{"X": "c"}] if holds else []
            self.assertEqual(bindings_of((guard, yes("edge", "b", "X")), EDGES), said)

    def test_guards(self):
        body = (yes("edge", "X", "Y"),)
        self.assertEqual(bindings_of(body + (("under", "Y", "X"),), EDGES), [{"X": 10, "Y": 9}])
        self.assertEqual(bindings_of(body + (("under", 3, "Y"),), EDGES), [{"X": 10, "Y": 9}, {"X": "c", "Y": 10}])
        self.assertEqual(bindings_of(body + (no("edge", "Y", "c"), no("edge", "Y", 10)), EDGES),
                         [{"X": 10, "Y": 9}, {"X": "c", "Y": 10}])
        self.assertEqual(bindings_of(body + (("unlike", "Y", "b"), ("unlike", "X", "c")), EDGES),
                         [{"X": 10, "Y": 9}, {"X": "b", "Y": "c"}])

    def test_a_variable_that_stands_twice(self):
        facts = [("p", (1, 1)), ("p", (1, 2)), ("p", ("a", "a"))]
        self.assertEqual(bindings_of((yes("p", "X", "X"),), facts), [{"X": 1}, {"X": "a"}])

    def test_facts_with_another_number_of_places(self):
        self.assertEqual(bindings_of((yes("p", "X"),), [("p", (1, 2)), ("p", ()), ("p", (3,))]), [{"X": 3}])

    def test_each_once(self):
        facts = [("p", (1,)), ("p", (2,)), ("q", (1,)), ("q", (2,))]
        self.assertEqual(bindings_of((yes("p", "X"), yes("q", "X"), yes("p", "X")), facts), [{"X": 1}, {"X": 2}])

    def test_against_every_binding_tried(self):
        chance = random.Random(13)
        for turn in range(600):
            facts, body = some_facts(chance, 20), some_body(chance)
            self.assertEqual(bindings_of(body, facts), plain_bindings(body, facts), (body, facts))


class PlansTest(unittest.TestCase):
    body = (yes("edge", "X", "Y"), no("edge", "Y", "X"), yes("edge", "Y", "Z"), ("under", "Z", "Y"), ("unlike", 1, 2))

    def refused(self, plan, body=None):
        with self.assertRaises(NoPlan):
            joined_by(self.body if body is None else body, plan, EDGES)

    def test_all_orders(self):
        said = bindings_of(self.body, EDGES)
        self.assertEqual(said, [{"X": "c", "Y": 10, "Z": 9}])
        counts = [0, 0]
        for plan in itertools.permutations(range(5)):
            counts[is_plan(self.body, plan)] += 1
            if is_plan(self.body, plan):
                self.assertEqual(joined_by(self.body, list(plan), EDGES), said)
            else:
                self.refused(list(plan))
        self.assertGreater(min(counts), 10)

    def test_one_left_out(self):
        for plan in ([], [0, 1, 2, 3], [0, 1, 2, 4], [1, 2, 3, 4], [0, 2]):
            self.refused(plan)

    def test_one_twice(self):
        for plan in ([0, 0, 1, 2, 3, 4], [0, 1, 2, 3, 4, 4], [0, 1, 2, 3, 3], [0, 0, 2, 3, 4], [0] * 5):
            self.refused(plan)

    def test_one_below_nought_or_beyond_the_last(self):
        for plan in ([0, 1, 2, 3, -1], [-5, -4, -3, -2, -1], [0, 1, 2, 3, 5], [0, 1, 2, 3, 4, 5], [1, 2, 3, 4, 5],
                     [-1, 0, 1, 2, 3, 4], [0, 1, 2, 3, 10 ** 29]):
            self.refused(plan)

    def test_a_guard_ahead_of_its_variables(self):
        for plan in ([1, 0, 2, 3, 4], [0, 1, 3, 2, 4], [3, 0, 1, 2, 4], [0, 4, 3, 1, 2]):
            self.refused(plan)
        for guard in (no("edge", "X", "X"), ("under", "X", 1), ("unlike", "a", "X")):
            self.refused([1, 0], (yes("edge", "X", "Y"), guard))

    def test_a_guard_may_draw_on_any_yes_ahead(self):
        body = (yes("edge", "X", "Y"), ("under", "Y", "X"), yes("edge", "Y", "X"))
        self.assertEqual(joined_by(body, [2, 1, 0], EDGES), bindings_of(body, EDGES))

    def test_truths_are_no_numbers(self):
        self.refused([False, True], (yes("edge", "X", "Y"), ("under", "Y", "X")))
        self.refused([False], (yes("edge", "X", "Y"),))

    def test_no_plan_whatever_the_facts(self):
        with self.assertRaises(NoPlan):
            joined_by(self.body, [], [])

    def test_every_plan_of_many_bodies(self):
        chance = random.Random(4)
        for turn in range(150):
            facts, body = some_facts(chance, 20), some_body(chance)
            said = plain_bindings(body, facts)
            for plan in itertools.permutations(range(len(body))):
                if is_plan(body, plan):
                    self.assertEqual(joined_by(body, list(plan), facts), said, (body, plan, facts))
                else:
                    self.assertRaises(NoPlan, joined_by, body, list(plan), facts)


class UntouchedTest(unittest.TestCase):
    body = (yes("edge", "X", "Y"), yes("edge", "Y", "Z"))

    def test_what_is_handed_in_stays(self):
        facts, plan = list(EDGES), [1, 0]
        bindings_of(self.body, facts)
        joined_by(self.body, plan, facts)
        self.assertRaises(NoPlan, joined_by, self.body, [1, 1], facts)
        self.assertEqual((facts, plan), (EDGES, [1, 0]))

    def test_what_is_told_is_the_askers_own(self):
        for body in (self.body, (yes("edge", "X", "Y"),), (no("p"),), (yes("p"),)):
            for ask in (bindings_of, lambda body, facts: joined_by(body, list(range(len(body))), facts)):
                first = ask(body, EDGES)
                kept = copy.deepcopy(first)
                self.assertEqual(len({id(binding) for binding in first}), len(first))
                for binding in first:
                    binding["W"] = 0
                first.append({})
                self.assertEqual(ask(body, EDGES), kept)


class BoundsTest(unittest.TestCase):
    def test_twelve_constants_and_four_variables(self):
        facts = [("e", (one, other)) for one in range(12) for other in range(12)]
        body = (yes("e", "A", "B"), yes("e", "B", "C"), yes("e", "C", "D"), yes("e", "D", "A"))
        said = bindings_of(body, facts)
        self.assertEqual(len(said), 12 ** 4)
        self.assertEqual((said[0], said[13]), ({"A": 0, "B": 0, "C": 0, "D": 0}, {"A": 0, "B": 0, "C": 1, "D": 1}))
        self.assertEqual(joined_by(body, [3, 1, 0, 2], facts), said)

    def test_forty_thousand_bindings(self):
        facts = [("p", (number,)) for number in range(200)] + [("q", (number,)) for number in range(200)]
        said = bindings_of((yes("p", "X"), yes("q", "Y")), facts)
        self.assertEqual(said, [{"X": one, "Y": other} for one in range(200) for other in range(200)])
        self.assertEqual(bindings_of((yes("p", "X"), yes("q", "Y"), ("under", "X", "Y"), ("under", 197, "X")), facts),
                         [{"X": 198, "Y": 199}])

    def test_a_plan_that_would_run_through_far_more(self):
        facts = [(name, (number,)) for name in "pqrs" for number in range(100)]
        body = (yes("p", "X"), yes("q", "Y"), ("under", "Y", "X"), ("under", 98, "X"), yes("r", "Z"), yes("s", "Z"))
        said = bindings_of(body, facts)
        self.assertEqual(len(said), 99 * 100)
        wide = (yes("p", "X"), ("under", 98, "X"), yes("q", "Y"), ("under", 98, "Y"), yes("r", "Z"), yes("s", "W"))
        for plan in ([0, 2, 4, 5, 1, 3], [5, 4, 2, 0, 3, 1]):
            self.assertEqual(len(joined_by(wide, plan, facts)), 100 * 100)


if __name__ == "__main__":
    unittest.main()
