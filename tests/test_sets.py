import itertools
import random
import unittest

from helper import (Agrees, books, edge, no, numbered, parts_in_order, path, PATHS, plain_beneath, plain_mixed,
                    plain_sets, plain_values, plain_web, some_values, yes)
from reason.errors import Missing, Mixed, NoMeasure, TooMany, Wide
from reason.meaning import meaning_of
from reason.plain import plain_facts
from reason.sets import beneath_of, put_in, sets_of
from reason.values import values_of

MEASURES = (("bits", 1), ("bits", 13), ("bits", 2 ** 99 - 1), ("chain", 9), ("chain", 10 ** 29), ("shares", 5040),
            ("shares", 2 ** 40 * 3 ** 30))


def bare(*names):
    return tuple((name, ()) for name in names)


class BeneathTest(unittest.TestCase):
    def test_a_told_fact_alone(self):
        self.assertEqual(beneath_of({}, [("p", ()), ("q", ())], ("p", ())), [("p", ())])

    def test_what_instances_lead_down_to(self):
        told = [edge(2, 3), edge(1, 2), edge(7, 8), edge(3, 4)]
        self.assertEqual(beneath_of(numbered(*PATHS), told, path(1, 3)), [edge(1, 2), edge(2, 3)])
        self.assertEqual(beneath_of(numbered(*PATHS), told, edge(2, 3)), [edge(2, 3)])
        self.assertEqual(beneath_of(numbered(*PATHS), told, path(1, 4)), [edge(1, 2), edge(2, 3), edge(3, 4)])

    def test_all_instances_and_told_facts_that_are_made_too(self):
        told = [edge(1, 2), edge(2, 3), edge(1, 3), path(2, 3)]
        self.assertEqual(beneath_of(numbered(*PATHS), told, path(1, 3)),
                         [edge(1, 2), edge(1, 3), edge(2, 3), path(2, 3)])

    def test_round_a_ring(self):
        told = [edge("b", "a"), edge("a", "b"), edge("b", 1), edge("c", "a")]
        self.assertEqual(beneath_of(numbered(*PATHS), told, path("a", 1)),
                         [edge("a", "b"), edge("b", 1), edge("b", "a")])

    def test_none(self):
        rules = numbered(("p", (1,), (("under", 1, 2),)), ("q", (), (yes("p", "X"),)))
        self.assertEqual(beneath_of(rules, [("r", ())], ("q", ())), [])

    def test_more_than_eight_are_told(self):
        told = [("q", (number,)) for number in range(30)]
        self.assertEqual(beneath_of(numbered(("p", (), (yes("q", "X"),))), told[::-1], ("p", ())), told)


class SetsTest(unittest.TestCase):
    def test_a_told_fact(self):
        self.assertEqual(sets_of({}, [("p", (1,)), ("q", ())], ("p", (1,))), [(("p", (1,)),)])

    def test_all_ways(self):
        told = [edge(1, 2), edge(2, 3), edge(1, 4), edge(4, 3), edge(3, 9)]
        self.assertEqual(sets_of(numbered(*PATHS), told, path(1, 3)),
                         [(edge(1, 2), edge(2, 3)), (edge(1, 4), edge(4, 3))])

    def test_a_fact_told_and_made(self):
        told = [edge(1, 2), edge(2, 3), path(1, 3)]
        self.assertEqual(sets_of(numbered(*PATHS), told, path(1, 3)), [(path(1, 3),), (edge(1, 2), edge(2, 3))])

    def test_an_empty_set(self):
        rules = numbered(("p", (), (("unlike", 1, 2),)), ("p", (), (yes("a"),)), ("q", (), (yes("p"), yes("b"))),
                         ("r", (), (yes("p"),)))
        told = list(bare("a", "b"))
        self.assertEqual(sets_of(rules, told, ("p", ())), [()])
        self.assertEqual(sets_of(rules, told, ("r", ())), [()])
        self.assertEqual(sets_of(rules, told, ("q", ())), [bare("b")])

    def test_eight_told_facts_beneath_and_nine(self):
        rules = numbered(("p", (), (yes("q", "X"), yes("q", "Y"), ("unlike", "X", "Y"))))
        told = [("q", (number,)) for number in range(9)]
        said = sets_of(rules, told[:8], ("p", ()))
        self.assertEqual(said, list(itertools.combinations(told[:8], 2)))
        self.assertRaises(Wide, sets_of, rules, told, ("p", ()))
        self.assertEqual(sets_of(rules, told, ("q", (3,))), [(("q", (3,)),)])
        self.assertEqual(len(beneath_of(rules, told, ("p", ()))), 9)

    def test_nine_beneath_where_fewer_would_do(self):
        rules = numbered(("p", (), (yes("q", "X"),)))
        told = [("q", (number,)) for number in range(8)]
        self.assertRaises(Wide, sets_of, rules, told + [("p", ())], ("p", ()))
        self.assertEqual(sets_of(rules, told, ("p", ())), [(fact,) for fact in told])

    def test_all_eight_in_one_set(self):
        told = [edge(number, number + 1) for number in range(8)]
        self.assertEqual(sets_of(numbered(*PATHS), told, path(0, 8)), [tuple(told)])
        self.assertRaises(Wide, sets_of, numbered(*PATHS), told + [edge(8, 9)], path(0, 9))

    def test_facts_beneath_that_stand_in_no_least_set(self):
        told = [edge(1, 2), edge(2, 1), edge(2, 3)]
        self.assertEqual(beneath_of(numbered(*PATHS), told, path(2, 3)), told)
        self.assertEqual(sets_of(numbered(*PATHS), told, path(2, 3)), [(edge(2, 3),)])
        rules = numbered(("p", (), (yes("a"),)), ("p", (), (yes("a"), yes("b"))))
        self.assertEqual(beneath_of(rules, list(bare("b", "a")), ("p", ())), list(bare("a", "b")))
        self.assertEqual(sets_of(rules, list(bare("b", "a")), ("p", ())), [bare("a")])

    def test_the_smaller_first_then_in_the_order_of_their_facts(self):
        rules = numbered(("p", (), (yes("z"),)), ("p", (), (yes("c"), yes("b"))), ("p", (), (yes("a"), yes("y"))),
                         ("p", (), (yes("x"), yes("a"))), ("p", (), (yes("d"), yes("b"), yes("y"))))
        self.assertEqual(sets_of(rules, list(bare(*"zyxdcba")), ("p", ())),
                         [bare("z"), bare("a", "x"), bare("a", "y"), bare("b", "c"), bare("b", "d", "y")])

    def test_numbers_stand_ahead_of_names_in_order(self):
        rules = numbered(("p", (), (yes("q", "X"), yes("r", "X"))))
        told = [(name, (place,)) for name in "rq" for place in ("a", 10, 9, -3)]
        self.assertEqual(sets_of(rules, told, ("p", ())),
                         [(("q", (place,)), ("r", (place,))) for place in (-3, 9, 10, "a")])

    def test_used_twice_stands_once(self):
        rules = numbered(("p", (), (yes("q", "X"), yes("q", "Y"))))
        self.assertEqual(sets_of(rules, [("q", (1,)), ("q", (2,))], ("p", ())), [(("q", (1,)),), (("q", (2,)),)])

    def test_mixed_rules_of_the_book_are_passed_by(self):
        rules = numbered(*PATHS, ("apart", ("X", "Y"), (yes("node", "X"), yes("node", "Y"), no("path", "X", "Y"))))
        told = [edge(1, 2), ("node", (1,)), ("apart", (1, 2))]
        self.assertEqual(sets_of(rules, told, path(1, 2)), [(edge(1, 2),)])


MIXED = numbered(("p", ("X",), (yes("q", "X"), no("r", "X"))), ("s", ("X",), (yes("p", "X"),)),
                 ("n", (("count",),), (yes("q", "X"),)), ("t", ("X",), (yes("q", "X"),)), ("u", (), (yes("q", "X"),)))


class RefusedTest(unittest.TestCase):
    ASKED = (beneath_of, sets_of)

    def test_mixed(self):
        told = [("q", (1,)), ("s", (5,))]
        for asked in self.ASKED:
            for fact in (("p", (1,)), ("s", (1,)), ("s", (5,)), ("n", (1,)), ("p", (7,)), ("p", ()), ("n", (1, 2, 3))):
                self.assertRaises(Mixed, asked, MIXED, told, fact)
            self.assertEqual(len(asked(MIXED, told, ("t", (1,)))), 1)

    def test_missing(self):
        told = [("q", (1,)), ("s", (5,))]
        for asked in self.ASKED:
            for fact in (("q", (2,)), ("t", (2,)), ("t", ()), ("t", (1, 1)), ("q", ()), ("nowhere", ()), ("r", (1,))):
                self.assertRaises(Missing, asked, MIXED, told, fact)

    def test_too_many_ahead_of_all(self):
        rules = {**MIXED, 9: ("big", ("X", "Y"), (yes("q", "X"), yes("q", "Y"), no("r", 0)))}
        told = [("q", (number,)) for number in range(20)]
        facts = (("p", (1,)), ("s", (99,)), ("q", (2,)), ("q", (99,)), ("nowhere", ()), ("u", ()), ("t", (1, 1)))
        for asked in self.ASKED:
            for fact in facts:
                self.assertRaises(TooMany, asked, rules, told, fact)

    def test_wide_behind_missing_and_mixed(self):
        told = [("q", (number,)) for number in range(9)]
        self.assertRaises(Wide, sets_of, MIXED, told, ("u", ()))
        self.assertRaises(Missing, sets_of, MIXED, told, ("u", (1,)))
        rules = {**MIXED, 9: ("u", (), (no("r", 1),))}
        self.assertRaises(Mixed, sets_of, rules, told, ("u", ()))


class PutInTest(unittest.TestCase):
    TOLD = {("a", ()): 12, ("b", ()): 10, ("c", ()): 3}

    def test_no_set_and_the_empty_set(self):
        for kind, nought in (("bits", 0), ("chain", 0), ("shares", 1)):
            for top in (1, 15, 60, 10 ** 29):
                self.assertEqual(put_in([], {}, (kind, top)), nought)
                self.assertEqual(put_in([()], {}, (kind, top)), top)
                self.assertEqual(put_in([()], {("a", ()): nought}, (kind, top)), top)

    def test_met_within_a_set_and_joined_over_all(self):
        sets = [bare("c"), bare("a", "b")]
        self.assertEqual(put_in(sets, self.TOLD, ("bits", 15)), 3 | 12 & 10)
        self.assertEqual(put_in(sets, self.TOLD, ("chain", 15)), 10)
        self.assertEqual(put_in(sets, self.TOLD, ("shares", 60)), 6)
        self.assertEqual(put_in([bare("a", "b", "c")], self.TOLD, ("shares", 60)), 1)

    def test_no_measure(self):
        for thing in (None, True, "bits", ("bits",), ["bits", 3], ("bits", 0), ("chain", -1), ("shares", False),
                      ("sum", 3), ("bits", 3, 3), (3, "bits"), Agrees(), ("bits", None), ()):
            for sets in ([], [()], [bare("a")]):
                self.assertRaises(NoMeasure, put_in, sets, self.TOLD, thing)


class PlainlyTest(unittest.TestCase):
    def graphs(self, chance):
        """Edges of which some paths have more than eight beneath, some less."""
        for turn in range(15):
            edges = {edge(chance.randrange(7), chance.randrange(7)): True for time in range(chance.randint(6, 11))}
            yield numbered(*PATHS), list(edges) + [path(0, 1)]

    def test_against_the_document_worked_plainly(self):
        chance = random.Random(29)
        seen = {}
        for rules, told in [*books(29, 150), *self.graphs(chance)]:
            web = plain_web(rules, told)
            asked = chance.sample(list(web), min(6, len(web)))
            measure = chance.choice(MEASURES)
            told_values = some_values(chance, told, measure)
            values = plain_values(web, told_values, measure)
            for fact in asked:
                beneath = plain_beneath(web, told, fact)
                self.assertEqual(beneath_of(rules, told, fact), beneath)
                if len(beneath) > 8:
                    self.assertRaises(Wide, sets_of, rules, told, fact)
                    seen["wide"] = seen.get("wide", 0) + 1
                    continue
                sets = sets_of(rules, told, fact)
                self.assertEqual(sets, plain_sets(web, told, fact), (rules, told, fact))
                self.assertEqual(put_in(sets, told_values, measure), values[fact])
                self.assertEqual(values_of(rules, told_values, measure)[fact], values[fact])
                seen[len(sets)] = seen.get(len(sets), 0) + 1
        self.assertGreater(min(seen["wide"], seen[1], seen[2]), 5, seen)
        self.assertGreater(sum(seen[count] for count in seen if count != "wide" and count > 2), 5, seen)

    def test_against_meanings_of_the_rules_for_plain_predicates(self):
        chance = random.Random(30)
        held = 0
        for rules, told in books(31, 60):
            mixed = plain_mixed(rules)
            plain = {number: rule for number, rule in rules.items() if rule[0] not in mixed}
            facts = [fact for fact in plain_facts(rules, told) if len(beneath_of(rules, told, fact)) <= 6]
            for fact in chance.sample(facts, min(2, len(facts))):
                parts = [part for part in parts_in_order(beneath_of(rules, told, fact))
                         if fact in meaning_of(plain, list(part))]
                least = [part for part in parts
                         if not any(tuple(one for one in part if one != left) in parts for left in part)]
                self.assertEqual(sets_of(rules, told, fact), least)
                held += 1
        self.assertGreater(held, 60)


class BoundsTest(unittest.TestCase):
    def test_wide_rules(self):
        body = (yes("r", "A", "B"), yes("r", "B", "C"), yes("r", "C", "D"))
        rules = numbered(("r", ("X", "Y"), (yes("e", "X", "Y"),)), ("r", ("Y", "X"), (yes("r", "X", "Y"),)),
                         *[("r", ("A", last), (*body, yes("r", "D", last))) for last in range(9)])
        told = [("e", (number, number + 1)) for number in range(8)]
        self.assertEqual(sets_of(rules, told, ("r", (0, 3))), [tuple(told[:3])])
        self.assertEqual(sets_of(rules, told, ("r", (7, 6))), [(told[6],)])
        self.assertEqual(beneath_of(rules, told, ("r", (0, 1))), told)


class UntouchedTest(unittest.TestCase):
    def test_what_is_handed_in_stays_and_lists_are_new(self):
        rules, told = numbered(*PATHS), [edge(2, 3), edge(1, 2)]
        beneath_of(rules, told, path(1, 3)).clear()
        sets_of(rules, told, path(1, 3)).clear()
        self.assertEqual(beneath_of(rules, told, path(1, 3)), [edge(1, 2), edge(2, 3)])
        sets = sets_of(rules, told, path(1, 3))
        self.assertEqual(sets, [(edge(1, 2), edge(2, 3))])
        self.assertEqual((rules, told), (numbered(*PATHS), [edge(2, 3), edge(1, 2)]))
        values = {edge(2, 3): 4, edge(1, 2): 6}
        put_in(sets, values, ("bits", 7))
        self.assertEqual((sets, values), ([(edge(1, 2), edge(2, 3))], {edge(2, 3): 4, edge(1, 2): 6}))


if __name__ == "__main__":
    unittest.main()
