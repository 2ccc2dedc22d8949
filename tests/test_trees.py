import itertools
import unittest

from helper import books, edge, no, numbered, path, PATHS, plain_many, plain_web, yes
from reason.errors import TooMany
from reason.plain import plain_facts
from reason.trees import many_of

MOST = 999_999_999


def bare(*names):
    return [(name, ()) for name in names]


class ManyTest(unittest.TestCase):
    def test_of_nothing(self):
        self.assertEqual(many_of({}, [], 5), {})
        self.assertEqual(many_of(numbered(*PATHS), [], 5), {})

    def test_told_facts_alone_have_one_each(self):
        self.assertEqual(many_of({}, [("p", (1,)), ("q", ())], 7), {("p", (1,)): 1, ("q", ()): 1})

    def test_one_for_each_way(self):
        told = [edge("a", "b"), edge("a", "c"), edge("b", "d"), edge("c", "d"), edge("d", "e")]
        many = many_of(numbered(*PATHS), told, MOST)
        self.assertEqual(many[path("a", "d")], 2)
        self.assertEqual(many[path("a", "e")], 2)
        self.assertEqual(many[path("a", "b")], 1)
        self.assertEqual(set(many), set(plain_facts(numbered(*PATHS), told)))

    def test_a_told_fact_that_rules_give_too(self):
        told = [edge(1, 2), path(1, 2)]
        self.assertEqual(many_of(numbered(PATHS[0]), told, 9), {edge(1, 2): 1, path(1, 2): 2})
        twice = numbered(PATHS[0], ("path", ("X", "Y"), (yes("edge", "X", "Y"), yes("edge", "X", "Y"))))
        self.assertEqual(many_of(twice, told, 9), {edge(1, 2): 1, path(1, 2): 3})

    def test_each_rule_has_an_instance_of_its_own(self):
        rule = ("p", (), (yes("q", "X"),))
        self.assertEqual(many_of({4: rule, 9: rule}, [("q", (1,)), ("q", (2,))], 9)[("p", ())], 4)

    def test_a_fact_used_twice_has_a_choice_for_each_use(self):
        rules = numbered(("q", (), (yes("a"),)), ("q", (), (yes("b"),)), ("q", (), (yes("c"),)),
                         ("p", (), (yes("q"), yes("q"))), ("r", (), (yes("q"), yes("p"), yes("q"), yes("q"))))
        many = many_of(rules, bare("a", "b", "c"), MOST)
        self.assertEqual((many[("q", ())], many[("p", ())], many[("r", ())]), (3, 9, 3 ** 5))

    def test_what_several_used_facts_lean_on_is_chosen_for_each(self):
        rules = numbered(("d", (), (yes("x"),)), ("d", (), (yes("y"),)), ("l", (), (yes("d"),)), ("m", (), (yes("d"),)),
                         ("t", (), (yes("l"), yes("m"))))
        self.assertEqual(many_of(rules, bare("x", "y"), MOST)[("t", ())], 4)

    def test_rules_without_a_yes_and_with_guards(self):
        rules = numbered(("p", (1,), (("under", 1, 2),)), ("p", (1,), (("unlike", 1, 2),)),
                         ("p", (1,), (("under", 2, 1),)), ("q", ("X",), (yes("p", "X"), ("under", "X", 5))),
                         ("q", ("X",), (yes("p", "X"), ("unlike", "X", 1))))
        self.assertEqual(many_of(rules, [], 9), {("p", (1,)): 2, ("q", (1,)): 2})
        self.assertEqual(many_of(rules, [("p", (1,))], 9), {("p", (1,)): 3, ("q", (1,)): 3})


class BoundTest(unittest.TestCase):
    RULES = numbered(("q", (), (yes("n", "X"),)), ("p", (), (yes("q"), yes("q"))), ("r", (), (yes("p"),)))
    TOLD = [("n", (number,)) for number in range(5)]

    def test_more_than_the_bound_as_many_and_one_less(self):
        for bound, many in ((24, 24), (25, 25), (26, 25), (27, 25), (MOST, 25)):
            said = many_of(self.RULES, self.TOLD, bound)
            self.assertEqual((said[("p", ())], said[("r", ())]), (many, many))
        for bound, many in ((4, 4), (5, 5), (6, 5)):
            self.assertEqual(many_of(self.RULES, self.TOLD, bound)[("q", ())], many)

    def test_a_bound_of_one(self):
        said = many_of(self.RULES, self.TOLD, 1)
        self.assertEqual(set(said.values()), {1})
        self.assertEqual(len(said), 8)

    def test_a_bound_of_nine_figures(self):
        rules = {number: ("p", (number,), (yes("p", number - 1),) * 2) for number in range(1, 7)}
        rules[0] = ("p", (0,), (yes("n", "X"),))
        told = [("n", (number,)) for number in range(2)]
        said = many_of(rules, told, MOST)
        self.assertEqual([said[("p", (number,))] for number in range(5)], [2, 4, 16, 256, 65536])
        self.assertEqual([said[("p", (number,))] for number in (5, 6)], [MOST, MOST])
        four = {number: ("p", (number,), (yes("p", number - 1),) * 2) for number in range(1, 5)}
        four[0] = ("p", (0,), (yes("n", "X"),))
        four[9] = ("p", (9,), (yes("p", 4), yes("p", 3), yes("p", 2)))
        self.assertEqual(many_of(four, told, MOST)[("p", (9,))], 65536 * 256 * 16)

    def test_a_long_chain_of_doublings(self):
        rules = numbered(("p", ("Y",), (yes("p", "X"), yes("s", "X", "Y"))),
                         ("p", ("Y",), (yes("p", "X"), yes("s", "X", "Y"), yes("s", "X", "Y"))))
        told = [("p", (0,))] + [("s", (number, number + 1)) for number in range(199)]
        said = many_of(rules, told, MOST)
        self.assertEqual([said[("p", (number,))] for number in (0, 1, 2, 29, 30, 199)],
                         [1, 2, 4, 2 ** 29, MOST, MOST])


class WithoutEndTest(unittest.TestCase):
    def test_a_fact_that_lies_beneath_itself(self):
        rules = numbered(("p", ("X",), (yes("p", "X"), yes("q", "X"))))
        told = [("p", (1,)), ("p", (2,)), ("q", (1,))]
        self.assertEqual(many_of(rules, told, 50), {("p", (1,)): 50, ("p", (2,)): 1, ("q", (1,)): 1})

    def test_one_above_such_a_fact(self):
        rules = numbered(("p", (), (yes("q"),)), ("q", (), (yes("p"),)), ("q", (), (yes("a"),)), ("r", (), (yes("q"),)),
                         ("s", (), (yes("r"), yes("a"))), ("t", (), (yes("a"),)))
        self.assertEqual(many_of(rules, bare("a"), 8),
                         {("a", ()): 1, ("p", ()): 8, ("q", ()): 8, ("r", ()): 8, ("s", ()): 8, ("t", ()): 1})

    def test_one_that_is_told_as_well(self):
        rules = numbered(("p", (), (yes("p"),)))
        self.assertEqual(many_of(rules, bare("p"), 3), {("p", ()): 3})
        self.assertEqual(many_of(rules, bare("p"), 1), {("p", ()): 1})
        self.assertEqual(many_of(rules, [], 3), {})

    def test_a_way_round_a_graph(self):
        told = [edge(1, 2), edge(2, 1), edge(2, 3), edge(4, 1)]
        said = many_of(numbered(*PATHS), told, MOST)
        self.assertEqual({said[path(1, 3)], said[path(4, 2)], said[path(2, 3)]}, {MOST})
        self.assertEqual(said[edge(2, 1)], 1)

    def test_what_leans_on_itself_only_by_facts_that_are_not_there(self):
        rules = numbered(("p", ("X",), (yes("p", "Y"), yes("s", "Y", "X"))))
        told = [("p", (1,)), ("s", (1, 2)), ("s", (4, 4)), ("s", (5, 1))]
        self.assertEqual(many_of(rules, told, 9)[("p", (2,))], 1)


class RefusedTest(unittest.TestCase):
    def test_mixed_facts_have_none(self):
        rules = numbered(("p", ("X",), (yes("q", "X"), no("r", "X"))), ("s", ("X",), (yes("p", "X"),)),
                         ("n", (("count",),), (yes("q", "X"),)), ("t", ("X",), (yes("q", "X"),)))
        told = [("q", (1,)), ("p", (1,)), ("s", (7,)), ("w", ())]
        self.assertEqual(many_of(rules, told, 9), {("q", (1,)): 1, ("t", (1,)): 1, ("w", ()): 1})

    def test_too_many(self):
        for rules in (numbered(("p", ("X", "Y"), (yes("q", "X"), yes("q", "Y")))),
                      numbered(("p", ("X", "Y"), (yes("q", "X"), yes("q", "Y"), no("r"))))):
            told = [("q", (number,)) for number in range(20)]
            self.assertRaises(TooMany, many_of, rules, told, 5)
            self.assertEqual(many_of(rules, told[:19], 5)[("q", (3,))], 1)


class PlainlyTest(unittest.TestCase):
    def test_against_the_document_worked_plainly(self):
        counts = {}
        for rules, told in books(25, 250):
            web = plain_web(rules, told)
            for bound in (1, 6, 40):
                many = many_of(rules, told, bound)
                self.assertEqual(many, plain_many(web, told, bound), (rules, told))
                for count in many.values():
                    counts[bound, count] = counts.get((bound, count), 0) + 1
        self.assertGreater(min(counts[40, many] for many in (1, 2, 3, 4, 40)), 5, counts)


class BoundsTest(unittest.TestCase):
    def test_wide_rules(self):
        told = [("e", row) for row in itertools.product(range(12), repeat=2)]
        body = (yes("e", "A", "B"), yes("e", "B", "C"), yes("e", "C", "D"), yes("e", "D", "A"))
        rules = {number: ("p", ("A", number), body) for number in range(1, 11)}
        rules[11] = ("z", (), (yes("p", "A", 1), yes("p", "B", 2)))
        many = many_of(rules, told, MOST)
        self.assertEqual(many[("p", (5, 7))], 12 ** 3)
        self.assertEqual(many[("z", ())], 12 ** 8)


class UntouchedTest(unittest.TestCase):
    def test_what_is_handed_in_stays_and_the_dict_is_new(self):
        rules, told = numbered(*PATHS), [edge(2, 3), edge(1, 2)]
        many_of(rules, told, 9).clear()
        self.assertEqual(len(many_of(rules, told, 9)), 5)
        self.assertEqual((rules, told), (numbered(*PATHS), [edge(2, 3), edge(1, 2)]))


if __name__ == "__main__":
    unittest.main()
