import itertools
import random
import unittest

from helper import no, numbered, plain_meaning, some_facts, some_rule, yes
from reason.errors import Ring, TooMany
from reason.layers import layers_of
from reason.meaning import meaning_of
from reason.terms import in_order

PATHS = (("path", ("X", "Y"), (yes("edge", "X", "Y"),)),
         ("path", ("X", "Z"), (yes("edge", "X", "Y"), yes("path", "Y", "Z"))))


def facts(predicate, *rows):
    return [(predicate, row) for row in rows]


def of(predicate, meaning):
    return [fact[1] for fact in meaning if fact[0] == predicate]


class OrdinaryTest(unittest.TestCase):
    def test_of_no_rules(self):
        self.assertEqual(meaning_of({}, []), [])
        self.assertEqual(meaning_of({}, [("q", ()), ("p", ("a",)), ("p", (1,))]),
                         [("p", (1,)), ("p", ("a",)), ("q", ())])

    def test_rules_that_lean_on_themselves(self):
        told = facts("edge", ("a", "b"), ("b", "c"), ("c", "a"), (1, "a"))
        meaning = meaning_of(numbered(*PATHS), told)
        self.assertEqual(of("path", meaning), [(one, other) for one in (1, "a", "b", "c") for other in "abc"])
        self.assertEqual(of("edge", meaning), [row for name, row in in_order(told)])

    def test_twice_in_one_body(self):
        rules = numbered(PATHS[0], ("path", ("X", "Z"), (yes("path", "X", "Y"), yes("path", "Y", "Z"))))
        told = facts("edge", *[(number, number + 1) for number in range(8)])
        self.assertEqual(of("path", meaning_of(rules, told)), list(itertools.combinations(range(9), 2)))

    def test_rules_that_lean_on_one_another(self):
        rules = numbered(("even", ("Y",), (yes("odd", "X"), yes("step", "X", "Y"))),
                         ("odd", ("Y",), (yes("even", "X"), yes("step", "X", "Y"))))
        told = facts("step", *[(number, number + 1) for number in range(9)]) + [("even", (0,))]
        meaning = meaning_of(rules, told)
        self.assertEqual((of("even", meaning), of("odd", meaning)),
                         ([(0,), (2,), (4,), (6,), (8,)], [(1,), (3,), (5,), (7,), (9,)]))

    def test_leaning_on_itself_gives_nothing_of_nothing(self):
        rules = numbered(("p", (), (yes("p"),)), ("q", (), (yes("r"),)), ("r", (), (yes("q"),)))
        self.assertEqual(meaning_of(rules, []), [])

    def test_a_not_of_a_lower_layer(self):
        rules = numbered(("apart", ("X", "Y"), (yes("node", "X"), yes("node", "Y"), no("path", "X", "Y"))), *PATHS)
        told = facts("edge", ("a", "b"), ("b", "c")) + facts("node", ("a",), ("b",), ("c",))
        self.assertEqual(of("apart", meaning_of(rules, told)),
                         [("a", "a"), ("b", "a"), ("b", "b"), ("c", "a"), ("c", "b"), ("c", "c")])

    def test_a_not_of_what_is_in_no_rule(self):
        rules = numbered(("p", ("X",), (yes("q", "X"), no("r", "X"))))
        self.assertEqual(of("p", meaning_of(rules, facts("q", (1,), (2,)) + facts("r", (2,)))), [(1,)])

    def test_several_layers(self):
        rules = numbered(("d", (), (no("c"),)), ("c", (), (no("b"),)), ("b", (), (no("a"),)))
        self.assertEqual(meaning_of(rules, []), [("b", ()), ("d", ())])
        self.assertEqual(meaning_of(rules, [("a", ())]), [("a", ()), ("c", ())])
        self.assertEqual(meaning_of(rules, [("c", ())]), [("b", ()), ("c", ())])

    def test_leaning_on_itself_above_a_not(self):
        rules = numbered(("go", ("Y",), (yes("go", "X"), yes("edge", "X", "Y"), no("shut", "Y"))),
                         ("shut", ("X",), (yes("wall", "X"), no("door", "X"))))
        told = facts("edge", (1, 2), (2, 3), (3, 4), (2, 5)) + facts("wall", (3,), (5,)) + facts("door", (5,))
        told.append(("go", (1,)))
        self.assertEqual(of("go", meaning_of(rules, told)), [(1,), (2,), (5,)])

    def test_told_facts_of_a_predicate_that_has_rules(self):
        rules = numbered(("p", ("X",), (yes("q", "X"), no("r", "X"))), ("s", ("X",), (yes("p", "X"),)))
        told = facts("q", (1,)) + facts("p", (1,), (5,)) + facts("r", (5,))
        self.assertEqual(of("s", meaning_of(rules, told)), [(1,), (5,)])

    def test_a_body_without_a_yes(self):
        rules = numbered(("p", ("a", 1), (no("q"),)), ("r", (), (("under", 1, 2), ("unlike", "a", 1))),
                         ("s", (), (("under", 2, 1),)), ("t", (), (no("r"),)))
        self.assertEqual(meaning_of(rules, []), [("p", ("a", 1)), ("r", ())])

    def test_guards_of_constants_ahead(self):
        rules = numbered(("p", ("X",), (("under", 1, 2), no("off"), yes("q", "X"), ("unlike", "X", 1))))
        self.assertEqual(of("p", meaning_of(rules, facts("q", (1,), ("a",)))), [("a",)])
        self.assertEqual(of("p", meaning_of(rules, facts("q", (1,), ("a",)) + [("off", ())])), [])

    def test_constants_and_repeated_terms(self):
        rules = numbered(("p", ("X", "a", "X", 0), (yes("q", "X", "X", 3),)))
        self.assertEqual(of("p", meaning_of(rules, facts("q", (1, 1, 3), (1, 2, 3), ("b", "b", 3), (1, 1, 4)))),
                         [(1, "a", 1, 0), ("b", "a", "b", 0)])

    def test_with_a_ring_there_is_none(self):
        self.assertRaises(Ring, meaning_of, numbered(("p", (), (no("p"),))), [])


class GroupsTest(unittest.TestCase):
    def test_groups_by_what_rules_give(self):
        rules = numbered(("many", ("X", ("count",)), (yes("path", "X", "Y"),)), *PATHS,
                         ("most", ("X",), (yes("many", "X", "N"), no("less", "N"))),
                         ("less", ("N",), (yes("many", "X", "N"), yes("many", "Y", "M"), ("under", "N", "M"))))
        meaning = meaning_of(rules, facts("edge", ("a", "b"), ("b", "c"), ("c", "d")))
        self.assertEqual(of("many", meaning), [("a", 3), ("b", 2), ("c", 1)])
        self.assertEqual((of("less", meaning), of("most", meaning)), ([(1,), (2,)], [("a",)]))

    def test_sums_of_sums(self):
        rules = numbered(("all", (("sum", "N"),), (yes("total", "D", "N"),)),
                         ("total", ("D", ("sum", "N")), (yes("sale", "D", "M", "N"),)),
                         ("low", ("D", ("least", "N")), (yes("sale", "D", "M", "N"),)))
        told = facts("sale", ("x", 1, 5), ("x", 2, 5), ("y", 1, 5), ("y", 2, "no"), ("z", 1, "no"))
        meaning = meaning_of(rules, told)
        self.assertEqual((of("total", meaning), of("all", meaning), of("low", meaning)),
                         ([("x", 10), ("y", 5)], [(15,)], [("x", 5), ("y", 5)]))

    def test_told_facts_and_other_rules_beside_a_group_rule(self):
        rules = numbered(("n", ("X", ("count",)), (yes("p", "X", "Y"),)), ("n", ("Y", "X"), (yes("n", "X", "Y"),)))
        self.assertEqual(of("n", meaning_of(rules, facts("p", ("a", 1), ("a", 2)) + facts("n", ("a", 2), ("b", 7)))),
                         [(2, "a"), (7, "b"), ("a", 2), ("b", 7)])

    def test_two_group_rules_for_one_predicate(self):
        rules = numbered(("n", (("count",),), (yes("p", "X"),)), ("n", (("sum", "X"),), (yes("p", "X"),)))
        self.assertEqual(of("n", meaning_of(rules, facts("p", (4,), (6,)))), [(2,), (10,)])

    def test_a_group_rule_with_a_not(self):
        rules = numbered(("n", (("count",),), (yes("p", "X"), no("q", "X"))), ("q", ("X",), (yes("r", "X"),)))
        self.assertEqual(of("n", meaning_of(rules, facts("p", (1,), (2,), (3,)) + facts("r", (3,)))), [(2,)])


class TooManyTest(unittest.TestCase):
    def test_four_hundred_told_facts_and_one_more(self):
        told = facts("p", *[(number,) for number in range(400)])
        self.assertEqual(meaning_of({}, told[::-1]), told)
        self.assertRaises(TooMany, meaning_of, {}, told + [("q", ())])

    def test_four_hundred_made_facts_and_one_more(self):
        rules = numbered(("p", ("X", "Y"), (yes("q", "X"), yes("q", "Y"))))
        told = facts("q", *[(number,) for number in range(19)])
        self.assertEqual(len(meaning_of(rules, told)), 19 * 19 + 19)
        told = told + facts("r", *[(number,) for number in range(20)])
        self.assertEqual(len(meaning_of(rules, told)), 400)
        self.assertRaises(TooMany, meaning_of, rules, told + [("s", ())])

    def test_by_the_last_round(self):
        rules = numbered(("p", ("Y",), (yes("p", "X"), yes("s", "X", "Y"))))
        told = facts("s", *[(number, number + 1) for number in range(199)]) + [("p", (0,)), ("t", ())]
        self.assertEqual(len(meaning_of(rules, told)), 400)
        self.assertRaises(TooMany, meaning_of, rules, told + [("t", (1,))])

    def test_by_a_group_rule_in_the_last_layer(self):
        rules = numbered(("n", (("count",),), (yes("p", "X"),)))
        told = facts("p", *[(number,) for number in range(399)])
        self.assertEqual(meaning_of(rules, told)[0], ("n", (399,)))
        self.assertRaises(TooMany, meaning_of, rules, told + [("q", ())])

    def test_a_fact_that_is_told_and_made_counts_once(self):
        rules = numbered(("p", ("X",), (yes("q", "X"),)), ("p", ("X",), (yes("p", "X"),)))
        told = facts("p", *[(number,) for number in range(200)]) + facts("q", *[(number,) for number in range(200)])
        self.assertEqual(len(meaning_of(rules, told)), 400)

    def test_far_too_many(self):
        rules = numbered(("p", ("A", "B", "C", "D"), (yes("q", "A"), yes("q", "B"), yes("q", "C"), yes("q", "D"))),
                         ("p", ("D", "A", "B", "C"), (yes("p", "A", "B", "C", "D"),)))
        self.assertRaises(TooMany, meaning_of, rules, facts("q", *[(number,) for number in range(12)]))


class BoundsTest(unittest.TestCase):
    def test_thirty_rules_of_twenty_thousand_bindings_each(self):
        told = facts("e", *itertools.product(range(12), repeat=2))
        names = ["r" + one + other for one in "ab" for other in "abcdefghijklmno"]
        body = (yes("e", "A", "B"), yes("e", "B", "C"), yes("e", "C", "D"))
        rules = numbered(*[(name, ("A",), body) for name in names[:20]],
                         *[(name, (("count",),), body) for name in names[20:]])
        meaning = meaning_of(rules, told)
        self.assertEqual(len(meaning), 144 + 20 * 12 + 10)
        self.assertEqual(of(names[29], meaning), [(12 ** 4,)])

    def test_many_rounds_beside_wide_bodies(self):
        step = facts("s", *[(number, number + 1) for number in range(11)])
        rules = numbered(("t", (0, 0), (yes("s", 0, "X"),)),
                         ("t", ("X", "Y"), (yes("t", "X", "Z"), yes("s", "Z", "Y"))),
                         ("t", ("Y", 0), (yes("t", "X", 11), yes("s", "X", "Y"))),
                         *[("u", (), (yes("t", "A", "B"), yes("t", "C", "D"), ("under", "D", 0), yes("t", "D", number)))
                           for number in range(12)])
        meaning = meaning_of(rules, step)
        self.assertEqual(of("t", meaning), list(itertools.product(range(12), repeat=2)))
        self.assertEqual(of("u", meaning), [])

    def test_all_paths_of_twelve_nodes(self):
        body = (yes("path", "X", "Y"), yes("path", "Y", "Z"), yes("path", "Z", "W"))
        rules = numbered(PATHS[0], ("path", ("X", "W"), body))
        told = facts("edge", *[(number, (number + 1) % 12) for number in range(12)])
        self.assertEqual(len(meaning_of(rules, told + facts("edge", (0, 2)))), 13 + 144)


class PlainlyTest(unittest.TestCase):
    def test_against_the_document_worked_plainly(self):
        chance = random.Random(3)
        held = 0
        for turn in range(700):
            rules = {number: some_rule(chance) for number in range(chance.randint(1, 5))}
            told = some_facts(chance, 12)
            try:
                layers = layers_of(rules)
            except Ring:
                continue
            held += 1
            self.assertEqual(meaning_of(rules, told), plain_meaning(rules, told, layers), (rules, told))
        self.assertGreater(held, 250)

    def test_the_order_of_rules_and_facts_is_nothing(self):
        chance = random.Random(8)
        rules = {1: ("n", ("X", ("count",)), (yes("path", "X", "Y"), no("q", "Y"))), 2: PATHS[0], 3: PATHS[1]}
        told = facts("edge", (1, 2), (2, 3), (3, 1), ("a", 1)) + [("q", (2,))]
        said = meaning_of(rules, told)
        for turn in range(20):
            numbers = chance.sample(sorted(rules), 3)
            mixed = chance.sample(told, len(told))
            self.assertEqual(meaning_of({number: rules[number] for number in numbers}, mixed), said)


class UntouchedTest(unittest.TestCase):
    def test_what_is_handed_in_stays_and_the_list_is_new(self):
        rules, told = numbered(*PATHS), facts("edge", ("b", "c"), ("a", "b"))
        meaning = meaning_of(rules, told)
        kept = list(meaning)
        self.assertIsNot(meaning_of({}, told), told)
        meaning.clear()
        self.assertEqual(meaning_of(rules, told), kept)
        self.assertEqual((rules, told), (numbered(*PATHS), facts("edge", ("b", "c"), ("a", "b"))))
        told.append(("edge", ("c", "d")))
        self.assertEqual(len(kept), 5)


if __name__ == "__main__":
    unittest.main()
