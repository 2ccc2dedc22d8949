import itertools
import random
import unittest

from helper import Agrees, Model, no, some_deed, yes
from reason.errors import Missing, NoFact, NoRule, ReasonError, Ring, TooMany, Twice, Unlike, Unsafe
from reason.keeper import Keeper
from reason.papers import facts_of, takes
from reason.terms import in_order

TOLD = ("told",)
STEP = ("path", ("X", "Y"), (yes("edge", "X", "Y"),))
CHAIN = ("path", ("X", "Z"), (yes("edge", "X", "Y"), yes("path", "Y", "Z")))
APART = ("apart", ("X", "Y"), (yes("node", "X"), yes("node", "Y"), no("path", "X", "Y")))


def edge(one, other):
    return ("edge", (one, other))


def path(one, other):
    return ("path", (one, other))


def kept_by(*deeds):
    """A keeper with rules put in and facts told."""
    keeper = Keeper()
    for deed in deeds:
        keeper.rule_in(deed) if len(deed) == 3 else keeper.put(deed)
    return keeper


def all_of(keeper):
    return (keeper.rules(), keeper.told(), keeper.facts(), keeper.paper())


class DeedsTest(unittest.TestCase):
    def test_a_new_keeper(self):
        self.assertEqual(all_of(Keeper()), ({}, [], [], []))

    def test_facts_and_rules_in_and_out(self):
        keeper = Keeper()
        self.assertEqual(keeper.put(edge("b", "c")), ([], [edge("b", "c")]))
        self.assertEqual(keeper.rule_in(STEP), (1, [], [path("b", "c")]))
        self.assertEqual(keeper.rule_in(CHAIN), (2, [], []))
        self.assertEqual(keeper.put(edge("a", "b")), ([], [edge("a", "b"), path("a", "b"), path("a", "c")]))
        self.assertEqual(keeper.told(), [edge("a", "b"), edge("b", "c")])
        self.assertEqual(keeper.facts(), keeper.told() + [path("a", "b"), path("a", "c"), path("b", "c")])
        self.assertEqual(keeper.rules(), {1: STEP, 2: CHAIN})
        self.assertEqual(keeper.take(edge("b", "c")), ([edge("b", "c"), path("a", "c"), path("b", "c")], []))
        self.assertEqual(keeper.rule_out(1), ([path("a", "b")], []))
        self.assertEqual(all_of(keeper)[:3], ({2: CHAIN}, [edge("a", "b")], [edge("a", "b")]))

    def test_facts_that_lean_on_one_another_go_together(self):
        keeper = kept_by(STEP, ("path", ("X", "Z"), (yes("path", "X", "Y"), yes("path", "Y", "Z"))),
                         ("path", ("Y", "X"), (yes("path", "X", "Y"),)), edge(1, 2))
        gone = [edge(1, 2), path(1, 1), path(1, 2), path(2, 1), path(2, 2)]
        self.assertEqual(keeper.facts(), gone)
        self.assertEqual(keeper.take(edge(1, 2)), (gone, []))
        self.assertEqual(keeper.facts(), [])

    def test_facts_that_go_and_come_in_one_deed(self):
        keeper = kept_by(("off", ("X",), (yes("lamp", "X"), no("on", "X"))),
                         ("lamp", (2,)), ("lamp", ("a",)), ("lamp", (1,)))
        self.assertEqual(keeper.put(("on", (2,))), ([("off", (2,))], [("on", (2,))]))
        self.assertEqual(keeper.take(("on", (2,))), ([("on", (2,))], [("off", (2,))]))
        self.assertEqual(keeper.rule_in(("on", ("X",), (yes("lamp", "X"), ("unlike", "X", 2)))),
                         (2, [("off", (1,)), ("off", ("a",))], [("on", (1,)), ("on", ("a",))]))
        self.assertEqual(keeper.rule_out(2), ([("on", (1,)), ("on", ("a",))], [("off", (1,)), ("off", ("a",))]))

    def test_a_group_changes_its_fact(self):
        keeper = kept_by(("n", (("count",),), (yes("q", "X"),)))
        self.assertEqual(keeper.put(("q", (1,))), ([], [("n", (1,)), ("q", (1,))]))
        self.assertEqual(keeper.put(("q", ("k",))), ([("n", (1,))], [("n", (2,)), ("q", ("k",))]))
        self.assertEqual(keeper.take(("q", (1,))), ([("n", (2,)), ("q", (1,))], [("n", (1,))]))

    def test_a_fact_that_stays_though_it_is_no_longer_told(self):
        keeper = kept_by(STEP, edge(1, 2))
        self.assertEqual(keeper.put(path(1, 2)), ([], []))
        self.assertEqual(keeper.told(), [edge(1, 2), path(1, 2)])
        self.assertEqual(keeper.paper()[1], (path(1, 2), 0, TOLD))
        self.assertEqual(keeper.take(path(1, 2)), ([], []))
        self.assertEqual(keeper.paper()[1][2], ("rule", 1, (edge(1, 2),)))
        self.assertRaises(Missing, keeper.take, path(1, 2))

    def test_a_fact_that_stays_though_its_reason_goes(self):
        keeper = kept_by(STEP, edge(1, 2), path(1, 2))
        self.assertEqual(keeper.take(edge(1, 2)), ([edge(1, 2)], []))
        self.assertEqual(keeper.facts(), [path(1, 2)])
        self.assertEqual(keeper.rule_out(1), ([], []))

    def test_numbers_are_never_given_again(self):
        keeper = kept_by(STEP, CHAIN)
        self.assertEqual(keeper.rule_out(2), ([], []))
        self.assertEqual(keeper.rule_in(APART)[0], 3)
        self.assertEqual(keeper.rule_out(1), ([], []))
        self.assertEqual(keeper.rule_out(3), ([], []))
        self.assertEqual(keeper.rules(), {})
        self.assertEqual(keeper.rule_in(STEP)[0], 4)
        self.assertRaises(Missing, keeper.rule_out, 1)

    def test_a_refused_rule_takes_no_number(self):
        keeper = kept_by(STEP)
        for thing in (STEP, 5, ("p", (), (no("p"),)), ("p", ("X",), (no("q"),)), ("edge", (), (no("q"),))):
            self.assertRaises(ReasonError, keeper.rule_in, thing)
        self.assertEqual(keeper.rule_in(CHAIN)[0], 2)

    def test_a_rule_out_and_in_again(self):
        keeper = kept_by(STEP, edge(1, 2))
        self.assertEqual(keeper.rule_out(1), ([path(1, 2)], []))
        self.assertEqual(keeper.rule_in(STEP), (2, [], [path(1, 2)]))
        self.assertEqual(keeper.rules(), {2: STEP})
        self.assertEqual(keeper.paper()[1], (path(1, 2), 1, ("rule", 2, (edge(1, 2),))))

    def test_a_fact_out_and_in_again(self):
        keeper = kept_by(edge(1, 2))
        self.assertEqual(keeper.take(edge(1, 2)), ([edge(1, 2)], []))
        self.assertEqual(keeper.put(edge(1, 2)), ([], [edge(1, 2)]))

    def test_a_predicate_that_stands_nowhere_any_more_may_have_another_width(self):
        keeper = kept_by(STEP, edge(1, 2))
        keeper.take(edge(1, 2))
        self.assertRaises(Unlike, keeper.put, ("edge", (1,)))
        keeper.rule_out(1)
        self.assertEqual(keeper.put(("edge", (1,))), ([], [("edge", (1,))]))
        self.assertRaises(Unlike, keeper.rule_in, STEP)
        self.assertEqual(keeper.put(("path", ())), ([], [("path", ())]))

    def test_rules_that_differ_in_little_are_unlike(self):
        keeper = kept_by(STEP)
        self.assertEqual(keeper.rule_in(("path", ("Y", "X"), (yes("edge", "Y", "X"),)))[0], 2)
        self.assertEqual(keeper.rule_in(("path", ("X", "Y"), (yes("edge", "X", "Y"), yes("edge", "X", "Y"))))[0], 3)

    def test_two_keepers_have_nothing_of_one_another(self):
        one, other = Keeper(), Keeper()
        one.rule_in(STEP)
        one.put(edge(1, 2))
        self.assertEqual(all_of(other), ({}, [], [], []))
        self.assertEqual(other.put(path(1, 2)), ([], [path(1, 2)]))
        self.assertEqual(other.rule_in(CHAIN)[0], 1)
        self.assertEqual(one.facts(), [edge(1, 2), path(1, 2)])
        self.assertEqual(one.rules(), {1: STEP})


class PaperTest(unittest.TestCase):
    def test_one_that_the_checker_takes_in_order(self):
        keeper = kept_by(STEP, CHAIN, APART, edge("c", "a"), edge("a", "b"), edge("b", "a"), ("node", ("a",)),
                         ("node", ("d",)), path("b", "b"))
        paper = keeper.paper()
        self.assertIs(takes(keeper.rules(), keeper.told(), paper), True)
        self.assertEqual([entry[0] for entry in paper], keeper.facts())
        self.assertEqual([entry[0] for entry in paper if entry[2] == TOLD], keeper.told())

    def test_it_hangs_on_the_deeds_alone(self):
        deeds = (STEP, CHAIN, ("path", ("X", "X"), (yes("edge", "X", "Y"),)), edge(1, 2), edge(2, 1), edge(1, 1))
        self.assertEqual(all_of(kept_by(*deeds)), all_of(kept_by(*deeds)))

    def test_asked_again_it_is_the_same(self):
        keeper = kept_by(STEP, CHAIN, edge(1, 2), edge(2, 1), edge(1, 1))
        said = all_of(keeper)
        self.assertRaises(Twice, keeper.put, edge(1, 2))
        for turn in range(3):
            self.assertEqual(all_of(keeper), said)


class RefusalsTest(unittest.TestCase):
    def refused(self, keeper, error, deed, thing):
        before = all_of(keeper)
        with self.assertRaises(error) as caught:
            deed(thing)
        self.assertIs(caught.exception.__class__, error)
        self.assertEqual(all_of(keeper), before)
        return caught.exception

    def test_no_rule(self):
        keeper = kept_by(STEP, edge(1, 2))
        for thing in (None, 1, True, "path X Y if edge X Y", [], {}, (), list(STEP), STEP[:2], STEP + (1,), Agrees(),
                      ("path", ["X", "Y"], STEP[2]), ("path", ("X", "Y"), list(STEP[2])), ("path", ("X", "Y"), ()),
                      ("if", (), STEP[2]), ("Path", (), STEP[2]), ("path", (True, 1), STEP[2]), edge(1, 2), 1.5, set(),
                      ("path", (("sum", "x"),), STEP[2]), ("path", ("X", "Y"), (("maybe", "edge", ("X", "Y")),)),
                      ("path", ("X", "Y"), STEP[2] * 5), object(), Keeper, (Agrees(), Agrees(), Agrees())):
            self.refused(keeper, NoRule, keeper.rule_in, thing)

    def test_no_fact(self):
        keeper = kept_by(STEP, ("q", (1,)), ("r", ()))
        for thing in (None, 1, False, "q 1", [], {}, (), ["q", (1,)], ("q", [1]), ("q", (True,)), ("q", (1.0,)),
                      ("q",), ("q", (1,), ()), ("Q", (1,)), ("q", ("X",)), ("q", (None,)), ("q", (1, 2, 3, 4, 5)),
                      ("sum", (1,)), ("q", ("",)), ("q", ("toolonger",)), Agrees(), ("q", (Agrees(),)), set(), STEP,
                      object(), 2.5):
            self.refused(keeper, NoFact, keeper.put, thing)

    def test_twice(self):
        keeper = kept_by(STEP, edge(1, 2))
        self.refused(keeper, Twice, keeper.rule_in, STEP)
        self.refused(keeper, Twice, keeper.rule_in, ("path", ("X", "Y"), (("yes", "edge", ("X", "Y")),)))
        self.refused(keeper, Twice, keeper.put, edge(1, 2))

    def test_unlike(self):
        keeper = kept_by(STEP, edge(1, 2), ("lone", (1,)))
        for rule in (("path", ("X",), (yes("edge", "X", "Y"),)), ("p", ("X",), (yes("edge", "X"),)),
                     ("p", ("X",), (yes("q", "X"), yes("q", "X", "X"))), ("p", ("X",), (yes("q", "X"), no("p"))),
                     ("p", ("X",), (yes("edge", "X", "Y"), no("lone"))), ("lone", (("count",), ), (no("lone", 1, 2),)),
                     ("path", (("count",),), (yes("edge", "X", "Y"),))):
            self.refused(keeper, Unlike, keeper.rule_in, rule)
        for fact in (("edge", (1,)), ("edge", ()), ("path", (1, 2, 3)), ("lone", ()), ("lone", (1, 1))):
            self.refused(keeper, Unlike, keeper.put, fact)

    def test_unsafe(self):
        keeper = kept_by(STEP)
        for rule in (("p", ("X",), (yes("edge", "Y", "Y"),)), ("p", (), (no("edge", "X", 1),)),
                     ("p", (), (("under", "X", 1), yes("q", "X"))), ("p", (("sum", "N"),), (yes("q", "X"),)),
                     ("p", (), (yes("q", "X"), ("unlike", "X", "Y"), yes("q", "Y")))):
            self.refused(keeper, Unsafe, keeper.rule_in, rule)

    def test_ring(self):
        keeper = kept_by(STEP, APART)
        error = self.refused(keeper, Ring, keeper.rule_in, ("edge", ("X", "Y"), (yes("apart", "X", "Y"),)))
        self.assertIsInstance(error.ring, tuple)
        self.assertEqual(sorted(error.ring), ["apart", "edge", "path"])
        spot = error.ring.index("edge")
        self.assertEqual(error.ring[spot:] + error.ring[:spot], ("edge", "path", "apart"))
        error = self.refused(keeper, Ring, keeper.rule_in, ("p", (("count",),), (yes("p", "X"),)))
        self.assertEqual(error.ring, ("p",))

    def test_missing(self):
        keeper = kept_by(STEP, CHAIN, edge(1, 2), ("q", (1, 0)), ("r", ()))
        keeper.rule_out(2)
        for thing in (0, 2, 3, -1, None, True, 1.0, "1", [], {}, (), (1,), STEP, Agrees(), set(), object(), edge(1, 2)):
            self.refused(keeper, Missing, keeper.rule_out, thing)
        for thing in (edge(2, 1), path(1, 2), ("q", (True, False)), ("q", (1.0, 0)), ("q", [1, 0]), ["r", ()],
                      ("r", []), ("q", (1,)), None, 1, "r", [], {}, (), Agrees(), ("r", Agrees()), (Agrees(), ()),
                      set(), STEP):
            self.refused(keeper, Missing, keeper.take, thing)

    def test_too_many_of_each_deed(self):
        wide = ("p", ("X", "Y"), (yes("q", "X"), yes("q", "Y"), no("off")))
        nodes = [("q", (number,)) for number in range(20)]
        keeper = kept_by(wide, *nodes[:19])
        self.refused(keeper, TooMany, keeper.put, nodes[19])
        self.assertEqual(len(keeper.facts()), 380)
        self.assertEqual(keeper.put(("off", ()))[1], [("off", ())])
        keeper.put(nodes[19])
        self.refused(keeper, TooMany, keeper.take, ("off", ()))
        keeper.rule_in(("off", (), (yes("q", "X"),)))
        keeper.take(("off", ()))
        self.refused(keeper, TooMany, keeper.rule_out, 2)
        keeper.rule_out(1)
        keeper.rule_out(2)
        self.refused(keeper, TooMany, keeper.rule_in, wide)
        self.assertEqual(keeper.rule_in(STEP)[0], 3)

    def test_the_first_that_is_due_is_told(self):
        keeper = kept_by(("p", ("X", "Y"), (yes("q", "X"), yes("q", "Y"))), *[("q", (number,)) for number in range(19)])
        unlike, unsafe, ring = yes("q", 1, 1), no("w", "Z"), no("u")
        many = (yes("q", "X"), yes("q", "Y"), yes("q", "V"))
        for rule, error in ((("u", ("X", "X", "X", "X", "X"), many + (unlike, unsafe, ring)), NoRule),
                            (("u", ("X", "Y", "V"), many + (unlike, unsafe, ring)), Unlike),
                            (("u", ("X", "Y", "V"), many + (unsafe, no("u", 1, 1, 1))), Unsafe),
                            (("u", ("X", "Y", "V"), many + (no("u", 1, 1, 1),)), Ring),
                            (("u", ("X", "Y", "V"), many), TooMany)):
            self.refused(keeper, error, keeper.rule_in, rule)
        self.refused(keeper, Twice, keeper.rule_in, keeper.rules()[1])
        self.refused(keeper, Twice, keeper.put, ("q", (3,)))
        self.refused(keeper, Unlike, keeper.put, ("q", (99, 1)))
        self.refused(keeper, NoFact, keeper.put, ("q", (99, True)))
        self.refused(keeper, TooMany, keeper.put, ("q", (99,)))

    def test_unlike_ahead_of_unsafe_ahead_of_ring(self):
        keeper = kept_by(STEP)
        self.refused(keeper, Unlike, keeper.rule_in, ("p", ("X",), (no("p"),)))
        self.refused(keeper, Unsafe, keeper.rule_in, ("p", ("X",), (no("p", "X"),)))
        self.refused(keeper, Ring, keeper.rule_in, ("p", ("X",), (yes("q", "X"), no("p", "X"))))

    def test_bounds_that_are_not_refused(self):
        keeper = Keeper()
        for number in range(33):
            keeper.rule_in(("p", (number,), (yes("q", number),)))
        for number in range(210):
            keeper.put(("r", (10 ** 31 + number,)))
        self.assertEqual((len(keeper.rules()), len(keeper.facts())), (33, 210))


class OwnTest(unittest.TestCase):
    def test_what_is_told_is_the_askers_own(self):
        keeper = kept_by(STEP, CHAIN, edge(1, 2), edge(2, 3))
        before = all_of(keeper)
        for told in all_of(keeper):
            told.clear()
        self.assertEqual(all_of(keeper), before)
        for told in all_of(keeper)[1:]:
            told.append(("edge", (9, 9)))
        keeper.rules()[7] = STEP
        self.assertEqual(all_of(keeper), before)

    def test_the_difference_is_the_askers_own(self):
        keeper = kept_by(STEP)
        gone, come = keeper.put(edge(1, 2))
        come.clear()
        gone.append(edge(5, 5))
        self.assertEqual(keeper.facts(), [edge(1, 2), path(1, 2)])
        self.assertEqual(keeper.put(edge(2, 3)), ([], [edge(2, 3), path(2, 3)]))
        number, gone, come = keeper.rule_in(CHAIN)
        come.clear()
        self.assertEqual(keeper.rule_out(2), ([path(1, 3)], []))

    def test_what_was_told_stays_as_it_was(self):
        keeper = kept_by(STEP, edge(1, 2))
        said = all_of(keeper)
        keeper.put(edge(2, 3))
        keeper.rule_out(1)
        self.assertEqual(said, all_of(kept_by(STEP, edge(1, 2))))


class RowsOfDeedsTest(unittest.TestCase):
    def test_against_the_document_worked_plainly(self):
        chance = random.Random(18)
        refusals = {}
        for turn in range(12):
            keeper, model = Keeper(), Model()
            for time in range(60):
                kind, thing = some_deed(chance, model)
                error, book, given = model.due(kind, thing)
                before = model.meaning()
                deed = getattr(keeper, kind)
                if error is not None:
                    refusals[error] = refusals.get(error, 0) + 1
                    self.assertRaises(error, deed, thing)
                else:
                    model.book, model.given = book, given
                    model.last += kind == "rule_in"
                    after = model.meaning()
                    difference = ([fact for fact in before if fact not in after],
                                  [fact for fact in after if fact not in before])
                    number = (model.last,) if kind == "rule_in" else ()
                    self.assertEqual(deed(thing), number + difference)
                self.assertEqual(keeper.rules(), model.book)
                self.assertEqual(keeper.told(), in_order(model.given))
                self.assertEqual(keeper.facts(), model.meaning())
                paper = keeper.paper()
                self.assertIs(takes(model.book, model.given, paper), True)
                self.assertEqual(facts_of(paper), [entry[0] for entry in paper])
                self.assertEqual([entry[0] for entry in paper if entry[2] == TOLD], keeper.told())
        for error in (Missing, Twice, Unlike, Ring):
            self.assertGreater(refusals[error], 10, error)


class BoundsTest(unittest.TestCase):
    def test_thirty_rules_and_two_hundred_told_facts(self):
        keeper = Keeper()
        facts = [("e", row) for row in itertools.product(range(12), repeat=2)]
        facts += [("f", (number % 12, number // 12)) for number in range(56)]
        for number in range(1, 25):
            rule = ("p", (number,), (yes("f", "X", number % 12), yes("f", "X", 1)))
            self.assertEqual(keeper.rule_in(rule)[0], number)
        for fact in facts:
            self.assertEqual(keeper.put(fact)[0], [])
        self.assertEqual(len(keeper.facts()), 200 + 10)
        body = (yes("e", "A", "B"), yes("e", "B", "C"), yes("e", "C", "D"), yes("e", "D", "A"))
        for number in range(25, 31):
            head = ("q", ("A", number)) if number < 28 else ("n", (number, ("count",)))
            self.assertEqual(keeper.rule_in((*head, body))[0], number)
        self.assertEqual(len(keeper.facts()), 200 + 10 + 36 + 3)
        gone, come = keeper.take(facts[0])
        self.assertEqual((len(gone), len(come)), (4, 3))
        self.assertIs(takes(keeper.rules(), keeper.told(), keeper.paper()), True)


if __name__ == "__main__":
    unittest.main()
