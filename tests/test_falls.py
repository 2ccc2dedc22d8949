import itertools
import random
import unittest

from helper import books, edge, no, numbered, path, PATHS, plain_beneath, plain_falls, plain_sets, plain_web, yes
from reason.errors import Missing, Mixed, TooMany, Wide
from reason.falls import falls_of, needed_of
from reason.meaning import meaning_of
from reason.plain import mixed_of, plain_facts
from reason.sets import beneath_of, sets_of


def bare(*names):
    return tuple((name, ()) for name in names)


class FallsTest(unittest.TestCase):
    def test_a_told_fact(self):
        told = [("p", (1,)), ("q", ())]
        self.assertEqual(falls_of({}, told, ("p", (1,))), [(("p", (1,)),)])
        self.assertEqual(needed_of({}, told, ("p", (1,))), [("p", (1,))])

    def test_one_way(self):
        told = [edge(2, 3), edge(1, 2), edge(3, 4)]
        self.assertEqual(falls_of(numbered(*PATHS), told, path(1, 3)), [(edge(1, 2),), (edge(2, 3),)])
        self.assertEqual(needed_of(numbered(*PATHS), told, path(1, 3)), [edge(1, 2), edge(2, 3)])

    def test_two_ways(self):
        told = [edge(1, 2), edge(2, 3), edge(1, 4), edge(4, 3)]
        self.assertEqual(falls_of(numbered(*PATHS), told, path(1, 3)),
                         [(edge(1, 2), edge(1, 4)), (edge(1, 2), edge(4, 3)), (edge(1, 4), edge(2, 3)),
                          (edge(2, 3), edge(4, 3))])
        self.assertEqual(needed_of(numbered(*PATHS), told, path(1, 3)), [])

    def test_two_ways_with_a_step_in_both(self):
        told = [edge(1, 2), edge(2, 3), edge(1, 4), edge(4, 3), edge(3, 5)]
        said = falls_of(numbered(*PATHS), told, path(1, 5))
        self.assertEqual(said[0], (edge(3, 5),))
        self.assertEqual([len(part) for part in said], [1, 2, 2, 2, 2])
        self.assertEqual(needed_of(numbered(*PATHS), told, path(1, 5)), [edge(3, 5)])

    def test_a_fact_that_is_told_and_made_too(self):
        told = [edge(1, 2), edge(2, 3), path(1, 3)]
        self.assertEqual(falls_of(numbered(*PATHS), told, path(1, 3)),
                         [(edge(1, 2), path(1, 3)), (edge(2, 3), path(1, 3))])
        self.assertEqual(needed_of(numbered(*PATHS), told, path(1, 3)), [])

    def test_a_fact_that_stands_by_rules_alone(self):
        rules = numbered(("p", (), (("unlike", 1, 2),)), ("p", (), (yes("a"),)), ("q", (), (yes("p"),)),
                         ("r", (), (yes("p"), yes("a"))))
        for fact in (("p", ()), ("q", ())):
            self.assertEqual(falls_of(rules, list(bare("a")), fact), [])
            self.assertEqual(needed_of(rules, list(bare("a")), fact), [])
            self.assertEqual(falls_of(rules, [*bare("a"), fact], fact), [])
        self.assertEqual(falls_of(rules, list(bare("a")), ("r", ())), [bare("a")])

    def test_eight_told_facts_beneath_and_nine(self):
        rules = numbered(("p", (), (yes("q", "X"),)))
        told = [("q", (number,)) for number in range(9)]
        self.assertEqual(falls_of(rules, told[:8], ("p", ())), [tuple(told[:8])])
        self.assertEqual(needed_of(rules, told[:8], ("p", ())), [])
        for asked in (falls_of, needed_of):
            self.assertRaises(Wide, asked, rules, told, ("p", ()))
            self.assertEqual(len(asked(rules, told, ("q", (1,)))), 1)
        chain = [edge(number, number + 1) for number in range(8)]
        self.assertEqual(needed_of(numbered(*PATHS), chain[::-1], path(0, 8)), chain)
        self.assertRaises(Wide, needed_of, numbered(*PATHS), chain + [edge(8, 9)], path(0, 9))

    def test_the_smaller_first_then_in_the_order_of_their_facts(self):
        rules = numbered(("p", (), (yes("z"), yes("a"))), ("p", (), (yes("z"), yes("b"), yes("c"))))
        self.assertEqual(falls_of(rules, list(bare(*"zcba")), ("p", ())), [bare("z"), bare("a", "b"), bare("a", "c")])

    def test_a_fact_that_leans_on_itself(self):
        rules = numbered(("p", (), (yes("q"),)), ("q", (), (yes("p"),)), ("q", (), (yes("a"),)))
        self.assertEqual(falls_of(rules, list(bare("a")), ("p", ())), [bare("a")])
        self.assertEqual(falls_of(rules, list(bare("a", "p")), ("q", ())), [bare("a", "p")])


class RefusedTest(unittest.TestCase):
    RULES = numbered(("p", ("X",), (yes("q", "X"), no("r", "X"))), ("n", (("count",),), (yes("q", "X"),)),
                     ("t", ("X",), (yes("q", "X"),)), ("u", (), (yes("q", "X"),)))

    def test_in_order(self):
        told = [("q", (number,)) for number in range(9)]
        big = {**self.RULES, 9: ("big", ("X", "Y"), (yes("q", "X"), yes("q", "Y"), no("r", 0)))}
        many = [("q", (number,)) for number in range(20)]
        for asked in (falls_of, needed_of):
            for fact in (("p", (1,)), ("p", (77,)), ("p", ()), ("n", (9,))):
                self.assertRaises(Mixed, asked, self.RULES, told, fact)
                self.assertRaises(TooMany, asked, big, many, fact)
            for fact in (("q", (77,)), ("t", ()), ("u", (1,)), ("nowhere", ())):
                self.assertRaises(Missing, asked, self.RULES, told, fact)
                self.assertRaises(TooMany, asked, big, many, fact)
            self.assertRaises(Wide, asked, self.RULES, told, ("u", ()))
            self.assertRaises(TooMany, asked, big, many, ("u", ()))
            self.assertRaises(TooMany, asked, big, many, ("q", (1,)))


class PlainlyTest(unittest.TestCase):
    def graphs(self, chance):
        """Edges of which some paths have more than eight beneath, some less."""
        for turn in range(15):
            edges = {edge(chance.randrange(6), chance.randrange(6)): True for time in range(chance.randint(6, 11))}
            yield numbered(*PATHS, ("path", (1, 0), (("under", 0, 1),))), list(edges) + [path(0, 1)]

    def test_against_the_document_worked_plainly(self):
        chance = random.Random(30)
        seen = {}
        for rules, told in [*books(30, 150), *self.graphs(chance)]:
            # What stands by rules alone is seldom met by chance, so it is asked for where it is there.
            web = plain_web(rules, told)
            for fact in chance.sample(list(web), min(6, len(web))) + [one for one in web if one == path(1, 0)]:
                if len(plain_beneath(web, told, fact)) > 8:
                    self.assertRaises(Wide, falls_of, rules, told, fact)
                    self.assertRaises(Wide, needed_of, rules, told, fact)
                    seen["wide"] = seen.get("wide", 0) + 1
                    continue
                falls = falls_of(rules, told, fact)
                sets = plain_sets(web, told, fact)
                self.assertEqual(falls, plain_falls(web, told, fact), (rules, told, fact))
                needed = [one for one in plain_beneath(web, told, fact) if all(one in part for part in sets)]
                self.assertEqual(needed_of(rules, told, fact), needed)
                seen[len(falls)] = seen.get(len(falls), 0) + 1
                self.assertTrue(all(set(part) & set(one) for part in falls for one in sets))
        self.assertGreater(min(seen["wide"], seen[0], seen[1], seen[2], seen[4]), 3, seen)

    def test_just_the_least_that_meet_all_least_sets(self):
        chance = random.Random(31)
        for turn in range(25):
            edges = {edge(chance.randrange(5), chance.randrange(5)): True for time in range(7)}
            told = list(edges)
            for fact in plain_facts(numbered(*PATHS), told):
                sets = sets_of(numbered(*PATHS), told, fact)
                beneath = beneath_of(numbered(*PATHS), told, fact)
                meeting = [part for size in range(8) for part in itertools.combinations(beneath, size)
                           if all(set(part) & set(one) for one in sets)]
                least = [part for part in meeting if not any(set(one) < set(part) for one in meeting)]
                self.assertEqual(falls_of(numbered(*PATHS), told, fact), least)

    def test_against_meanings(self):
        chance = random.Random(32)
        for rules, told in books(33, 50):
            mixed = mixed_of(rules)
            plain = {number: rule for number, rule in rules.items() if rule[0] not in mixed}
            plain_told = [fact for fact in told if fact[0] not in mixed]
            facts = [fact for fact in plain_facts(rules, told) if len(beneath_of(rules, told, fact)) <= 8]
            for fact in chance.sample(facts, min(3, len(facts))):
                for part in falls_of(rules, told, fact):
                    left = [one for one in plain_told if one not in part]
                    self.assertNotIn(fact, meaning_of(plain, left))
                    for one in part:
                        self.assertIn(fact, meaning_of(plain, left + [one]))


class UntouchedTest(unittest.TestCase):
    def test_what_is_handed_in_stays_and_lists_are_new(self):
        rules, told = numbered(*PATHS), [edge(2, 3), edge(1, 2)]
        falls_of(rules, told, path(1, 3)).clear()
        needed_of(rules, told, path(1, 3)).clear()
        self.assertEqual(falls_of(rules, told, path(1, 3)), [(edge(1, 2),), (edge(2, 3),)])
        self.assertEqual(needed_of(rules, told, path(1, 3)), [edge(1, 2), edge(2, 3)])
        self.assertEqual((rules, told), (numbered(*PATHS), [edge(2, 3), edge(1, 2)]))


if __name__ == "__main__":
    unittest.main()
