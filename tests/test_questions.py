import itertools
import random
import unittest

from helper import books, CONSTANTS, edge, in_mark_order, meets, no, numbered, path, PATHS, plain_asked, WIDTHS, yes
from reason.errors import TooMany
from reason.layers import layers_of
from reason.meaning import meaning_of
from reason.questions import asked_of
from reason.terms import in_order

EDGES = [edge("a", "b"), edge("b", "c"), edge("d", "e"), edge("x", "y")]


class PathsTest(unittest.TestCase):
    def test_from_one_node(self):
        answers, marks, made = asked_of(numbered(*PATHS), EDGES, ("path", ("a", None)))
        self.assertEqual(answers, [path("a", "b"), path("a", "c")])
        self.assertEqual(marks, [("edge", ("a", None)), ("edge", ("b", None)), ("edge", ("c", None)),
                                 ("path", ("a", None)), ("path", ("b", None)), ("path", ("c", None))])
        self.assertEqual(made, [edge("a", "b"), edge("b", "c"), path("a", "b"), path("a", "c"), path("b", "c")])

    def test_none_at_no_place(self):
        answers, marks, made = asked_of(numbered(*PATHS), EDGES, ("path", ("a", "c")))
        self.assertEqual(answers, [path("a", "c")])
        self.assertEqual(marks, in_mark_order([
            ("path", ("a", "c")), ("edge", ("a", "c")), ("edge", ("a", None)), ("path", ("b", "c")),
            ("edge", ("b", "c")), ("edge", ("b", None)), ("path", ("c", "c")), ("edge", ("c", "c")),
            ("edge", ("c", None))]))
        self.assertEqual(made, [edge("a", "b"), edge("b", "c"), path("a", "c"), path("b", "c")])
        self.assertEqual(asked_of(numbered(*PATHS), EDGES, ("path", ("c", "a")))[0], [])

    def test_none_at_all_places(self):
        answers, marks, made = asked_of(numbered(*PATHS), EDGES, ("path", (None, None)))
        meaning = meaning_of(numbered(*PATHS), EDGES)
        self.assertEqual(answers, [fact for fact in meaning if fact[0] == "path"])
        self.assertEqual(made, meaning)
        self.assertEqual(set(marks), {("edge", (None, None)), ("path", (None, None)),
                                      *[(name, (node, None)) for node in "bcey" for name in ("edge", "path")]})

    def test_none_at_the_first_place(self):
        answers, marks, made = asked_of(numbered(*PATHS), EDGES, ("path", (None, "c")))
        self.assertEqual(answers, [path("a", "c"), path("b", "c")])
        self.assertIn(("path", ("y", "c")), marks)
        self.assertNotIn(path("x", "y"), made)
        self.assertIn(edge("x", "y"), made)


class EdgesTest(unittest.TestCase):
    def test_a_predicate_in_no_rule(self):
        told = [("p", (1, 2)), ("p", (1, 3)), ("p", (2, 3)), ("q", ())]
        for rules in ({}, numbered(*PATHS)):
            self.assertEqual(asked_of(rules, told, ("p", (1, None))), (told[:2], [("p", (1, None))], told[:2]))
            self.assertEqual(asked_of(rules, told, ("p", (1, 2))), (told[:1], [("p", (1, 2))], told[:1]))
            self.assertEqual(asked_of(rules, told, ("p", (None, None))), (told[:3], [("p", (None, None))], told[:3]))
            self.assertEqual(asked_of(rules, told, ("q", ())), (told[3:], [("q", ())], told[3:]))
            self.assertEqual(asked_of(rules, told, ("nowhere", (1, None))), ([], [("nowhere", (1, None))], []))

    def test_a_predicate_without_places(self):
        rules = numbered(("p", (), (yes("q", "X"), yes("r"))), ("r", (), (yes("q", 2),)))
        told = [("q", (1,)), ("q", (2,))]
        self.assertEqual(asked_of(rules, told, ("p", ())),
                         ([("p", ())], [("p", ()), ("q", (None,)), ("q", (2,)), ("r", ())],
                          [("p", ()), *told, ("r", ())]))
        self.assertEqual(asked_of(rules, told[:1], ("p", ())),
                         ([], [("p", ()), ("q", (None,)), ("q", (2,)), ("r", ())], told[:1]))

    def test_no_mark_behind_a_literal_that_none_meets(self):
        rules = numbered(("p", ("X",), (yes("q", "X"), ("under", "X", 5), yes("r", "X"), yes("s", "X"))))
        told = [("q", (1,)), ("q", (7,)), ("s", (1,))]
        self.assertEqual(asked_of(rules, told, ("p", (None,))),
                         ([], [("p", (None,)), ("q", (None,)), ("r", (1,))], told[:2]))
        self.assertEqual(asked_of(rules, told, ("p", (7,))), ([], [("p", (7,)), ("q", (7,))], [("q", (7,))]))

    def test_a_head_that_can_not_meet_the_mark(self):
        rules = numbered(("p", (1, "X"), (yes("q", "X"),)), ("p", ("X", "X"), (yes("r", "X"),)))
        told = [("q", (5,)), ("r", (2,)), ("r", (3,))]
        self.assertEqual(asked_of(rules, told, ("p", (2, 3))), ([], [("p", (2, 3))], []))
        self.assertEqual(asked_of(rules, told, ("p", (2, None))),
                         ([("p", (2, 2))], [("p", (2, None)), ("r", (2,))], [("p", (2, 2)), ("r", (2,))]))
        self.assertEqual(asked_of(rules, told, ("p", (1, None)))[1], [("p", (1, None)), ("q", (None,)), ("r", (1,))])
        self.assertEqual(asked_of(rules, told, ("p", (None, 3)))[0], [("p", (3, 3))])

    def test_constants_and_twice_the_same_variable_in_a_mark(self):
        rules = numbered(("p", ("X",), (yes("q", "Y", "Y", 4, "X"),)))
        told = [("q", (1, 1, 4, 2)), ("q", (1, 2, 4, 2)), ("q", (1, 1, 5, 2))]
        self.assertEqual(asked_of(rules, told, ("p", (2,))),
                         ([("p", (2,))], [("p", (2,)), ("q", (None, None, 4, 2))], [("p", (2,)), *in_order(told[:2])]))

    def test_a_constant_that_is_called_like_a_predicate(self):
        rules = numbered(("p", ("X",), (yes("q", "X"), ("unlike", "q", "X"), ("unlike", "p", "X"), yes("r", "X"))))
        told = [("q", ("q",)), ("q", ("a",)), ("r", ("a",))]
        self.assertEqual(asked_of(rules, told, ("p", (None,))),
                         ([("p", ("a",))], [("p", (None,)), ("q", (None,)), ("r", ("a",))],
                          [("p", ("a",)), ("q", ("a",)), ("q", ("q",)), ("r", ("a",))]))

    def test_rules_that_lean_on_one_another(self):
        rules = numbered(("even", ("X",), (yes("step", "Y", "X"), yes("odd", "Y"))),
                         ("odd", ("X",), (yes("step", "Y", "X"), yes("even", "Y"))))
        told = [("even", (0,))] + [("step", (number, number + 1)) for number in range(6)]
        answers, marks, made = asked_of(rules, told, ("even", (4,)))
        self.assertEqual(answers, [("even", (4,))])
        self.assertEqual(marks, [("even", (0,)), ("even", (2,)), ("even", (4,)), ("odd", (1,)), ("odd", (3,)),
                                 *[("step", (None, number)) for number in range(5)]])
        self.assertNotIn(("step", (4, 5)), made)
        self.assertEqual(asked_of(rules, told, ("even", (3,)))[0], [])

    def test_rules_that_lean_on_themselves(self):
        rules = numbered(("p", ("X",), (yes("p", "X"),)), ("p", ("X",), (yes("q", "X"),)))
        self.assertEqual(asked_of(rules, [("q", (1,)), ("q", (2,))], ("p", (1,))),
                         ([("p", (1,))], [("p", (1,)), ("q", (1,))], [("p", (1,)), ("q", (1,))]))
        rules = numbered(PATHS[0], ("path", ("X", "Z"), (yes("path", "X", "Y"), yes("path", "Y", "Z"))))
        ring = [edge(1, 2), edge(2, 1), edge(3, 4)]
        answers, marks, made = asked_of(rules, ring, ("path", (1, None)))
        self.assertEqual(answers, [path(1, 1), path(1, 2)])
        self.assertEqual(marks, [(name, (node, None)) for name in ("edge", "path") for node in (1, 2)])
        self.assertNotIn(path(3, 4), made)

    def test_told_facts_of_a_predicate_with_rules(self):
        told = [path("a", "q"), path("q", "r"), edge("a", "b")]
        answers, marks, made = asked_of(numbered(*PATHS), told, ("path", ("a", None)))
        self.assertEqual(answers, [path("a", "b"), path("a", "q")])
        self.assertNotIn(path("q", "r"), made)


class LayersTest(unittest.TestCase):
    RULES = numbered(*PATHS, ("node", ("X",), (yes("edge", "X", "Y"),)), ("node", ("Y",), (yes("edge", "X", "Y"),)),
                     ("apart", ("X", "Y"), (yes("node", "X"), yes("node", "Y"), no("path", "X", "Y"))),
                     ("far", ("X", "Y"), (yes("apart", "X", "Y"), yes("apart", "Y", "X"))),
                     ("many", ("X", ("count",)), (yes("path", "X", "Y"),)),
                     ("much", ("X",), (yes("many", "X", "N"), ("under", 1, "N"))))
    TOLD = [edge("a", "b"), edge("b", "c"), ("apart", ("z", "z")), ("many", ("z", 7))]

    def test_above_a_not(self):
        answers, marks, made = asked_of(self.RULES, self.TOLD, ("apart", ("b", None)))
        self.assertEqual(answers, [("apart", ("b", "a")), ("apart", ("b", "b"))])
        self.assertEqual((marks, made), ([("apart", ("b", None))], answers))
        answers, marks, made = asked_of(self.RULES, self.TOLD, ("far", ("c", None)))
        self.assertEqual(answers, [("far", ("c", "c"))])
        self.assertEqual(marks, [("apart", ("a", "c")), ("apart", ("b", "c")), ("apart", ("c", None)),
                                 ("apart", ("c", "c")), ("far", ("c", None))])
        self.assertEqual(made, [*[("apart", ("c", node)) for node in "abc"], ("far", ("c", "c"))])
        self.assertEqual(asked_of(self.RULES, self.TOLD, ("far", ("z", None)))[0], [("far", ("z", "z"))])

    def test_above_a_group(self):
        answers, marks, made = asked_of(self.RULES, self.TOLD, ("much", (None,)))
        self.assertEqual(answers, [("much", ("a",)), ("much", ("z",))])
        self.assertEqual(marks, [("many", (None, None)), ("much", (None,))])
        self.assertEqual(made, [("many", ("a", 2)), ("many", ("b", 1)), ("many", ("z", 7)), *answers])
        self.assertEqual(asked_of(self.RULES, self.TOLD, ("much", ("b",))),
                         ([], [("many", ("b", None)), ("much", ("b",))], [("many", ("b", 1))]))

    def test_of_a_group(self):
        self.assertEqual(asked_of(self.RULES, self.TOLD, ("many", ("a", None))),
                         ([("many", ("a", 2))], [("many", ("a", None))], [("many", ("a", 2))]))
        self.assertEqual(asked_of(self.RULES, self.TOLD, ("many", (None, 1)))[0], [("many", ("b", 1))])
        self.assertEqual(asked_of(self.RULES, self.TOLD, ("many", ("a", 1))), ([], [("many", ("a", 1))], []))

    def test_a_predicate_of_a_lower_layer_is_not_marked(self):
        for question in (("apart", (None, None)), ("far", (None, None)), ("much", (None,)), ("many", (None, None))):
            answers, marks, made = asked_of(self.RULES, self.TOLD, question)
            self.assertFalse({mark[0] for mark in marks} & {"path", "edge", "node"})
            self.assertFalse({fact[0] for fact in made} & {"path", "edge", "node"})


class OrderTest(unittest.TestCase):
    def test_none_ahead_of_numbers_ahead_of_names(self):
        rules = numbered(("p", ("X",), (yes("s", "X", "Y"), yes("p", "Y"))))
        told = [("s", (1, "a")), ("s", ("a", 10)), ("s", (10, 9)), ("s", (9, -2)), ("s", (-2, "b")), ("s", ("b", 1))]
        answers, marks, made = asked_of(rules, told, ("p", (1,)))
        self.assertEqual(marks, [("p", (place,)) for place in (-2, 1, 9, 10, "a", "b")]
                         + [("s", (place, None)) for place in (-2, 1, 9, 10, "a", "b")])
        self.assertEqual(made, in_order(told))
        rules[2] = ("p", ("X",), (yes("s", "Y", "X"), yes("s", 1, "Z"), yes("s", "Z", "Z")))
        marks = asked_of(rules, told, ("p", (1,)))[1]
        self.assertEqual([mark for mark in marks if mark[0] == "s"], in_mark_order([m for m in marks if m[0] == "s"]))
        self.assertEqual([mark[1][0] for mark in marks if mark[0] == "s"][:2], [None, None])


class RefusedTest(unittest.TestCase):
    def test_too_many(self):
        rules = numbered(("big", ("X", "Y"), (yes("q", "X"), yes("q", "Y"), no("r"))), ("p", (), (yes("q", 1),)))
        told = [("q", (number,)) for number in range(20)]
        for question in (("p", ()), ("q", (1,)), ("big", (1, None)), ("nowhere", ())):
            self.assertRaises(TooMany, asked_of, rules, told, question)
            self.assertIsInstance(asked_of(rules, told[:19], question), tuple)


class PlainlyTest(unittest.TestCase):
    def some_question(self, chance, rules):
        predicate = chance.choice([rule[0] for rule in rules.values()] * 5 + list(WIDTHS)) if rules else "a"
        pattern = [chance.choice((None, 0, chance.choice(CONSTANTS))) for place in range(WIDTHS[predicate])]
        return (predicate, tuple(pattern))

    def test_against_the_document_worked_plainly(self):
        chance = random.Random(33)
        seen = {}
        for rules, told in books(34, 250):
            layers, meaning = layers_of(rules), meaning_of(rules, told)
            for turn in range(2):
                question = self.some_question(chance, rules)
                answers, marks, made = asked_of(rules, told, question)
                plain_marks, plain_made = plain_asked(rules, told, question)
                self.assertEqual(marks, in_mark_order(plain_marks), (rules, told, question))
                self.assertEqual(made, plain_made, (rules, told, question))
                self.assertEqual(answers, [fact for fact in meaning if meets(fact, question)])
                self.assertTrue(all(fact in meaning for fact in made))
                layer = layers.get(question[0], 0)
                key = (min(layer, 1), min(len(marks), 4), bool(answers))
                seen[key] = seen.get(key, 0) + 1
        for layer, answered in itertools.product((0, 1), (False, True)):
            self.assertGreater(sum(seen.get((layer, count, answered), 0) for count in (2, 3, 4)), 5, seen)

    def test_of_graphs(self):
        chance = random.Random(34)
        ways = [("path", ("X", "Z"), (yes("path", "X", "Y"), yes("path", "Y", "Z"))),
                ("path", ("X", "Y"), (yes("path", "Y", "X"),))]
        near = ("near", ("X", "Y"), (yes("path", "X", "Z"), ("unlike", "X", 2), yes("path", "Y", "Z")))
        for turn in range(40):
            rules = numbered(*PATHS, near, *chance.sample(ways, chance.randint(0, 2)))
            told = list({edge(chance.randrange(5), chance.randrange(5)): True for time in range(6)})
            question = (chance.choice(("path", "near")), (chance.choice((None, 0, 1)), chance.choice((None, 0, 1))))
            answers, marks, made = asked_of(rules, told, question)
            plain_marks, plain_made = plain_asked(rules, told, question)
            self.assertEqual((marks, made), (in_mark_order(plain_marks), plain_made))
            self.assertEqual(answers, [fact for fact in meaning_of(rules, told) if meets(fact, question)])

    def test_the_order_of_rules_and_facts_is_nothing(self):
        chance = random.Random(35)
        said = asked_of(numbered(*PATHS), EDGES, ("path", (None, "c")))
        for turn in range(10):
            self.assertEqual(asked_of({2: PATHS[1], 1: PATHS[0]}, chance.sample(EDGES, 4), ("path", (None, "c"))), said)


class BoundsTest(unittest.TestCase):
    def test_twenty_thousand_marks(self):
        told = [("q", row) for row in itertools.product(range(12), repeat=2)]
        body = (yes("q", "A", "B"), yes("q", "C", "D"))
        rules = numbered(("p", ("A", "B", "C", "D"), (*body, yes("p", "B", "C", "D", "A"))),
                         ("p", ("A", "B", "C", "D"), (*body, yes("p", "B", "A", "C", "D"))))
        answers, marks, made = asked_of(rules, told, ("p", (None, None, None, None)))
        self.assertEqual((answers, made), ([], told))
        self.assertEqual(len([mark for mark in marks if mark[0] == "p"]), 12 ** 4 + 1)

    def test_a_long_way_of_marks(self):
        told = [("n", (number, number + 1)) for number in range(11)]
        rules = numbered(*[("p", ("A", "B", number), (yes("p", "A", "B", number + 1),)) for number in range(11)],
                         ("p", ("A", "B", 11), (yes("n", "B", "C"), yes("p", "A", "C", 0))),
                         ("p", ("A", 11, 11), (yes("n", "A", "B"), yes("p", "B", 0, 0))))
        answers, marks, made = asked_of(rules, told, ("p", (0, 0, 0)))
        self.assertEqual(len([mark for mark in marks if mark[0] == "p"]), 12 ** 3)
        self.assertEqual((answers, made), ([], told))

    def test_wide_rules_that_lean_on_themselves(self):
        body = (yes("r", "A", "B"), yes("r", "B", "C"), yes("r", "C", "D"))
        rules = numbered(("r", ("X", "Y"), (yes("e", "X", "Y"),)),
                         *[("r", ("A", last), (*body, yes("r", "D", last))) for last in range(6)])
        told = [("e", row) for row in itertools.product(range(12), repeat=2)]
        answers, marks, made = asked_of(rules, told, ("r", (3, None)))
        self.assertEqual(answers, [("r", (3, number)) for number in range(12)])
        self.assertEqual(len(made), 288)


class UntouchedTest(unittest.TestCase):
    def test_what_is_handed_in_stays_and_lists_are_new(self):
        rules, told = numbered(*PATHS), [edge(2, 3), edge(1, 2)]
        said = asked_of(rules, told, ("path", (1, None)))
        kept = tuple(list(part) for part in said)
        for part in said:
            part.clear()
        self.assertEqual(asked_of(rules, told, ("path", (1, None))), kept)
        self.assertEqual((rules, told), (numbered(*PATHS), [edge(2, 3), edge(1, 2)]))


if __name__ == "__main__":
    unittest.main()
