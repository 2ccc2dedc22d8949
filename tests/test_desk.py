import unittest

from helper import Agrees
from reason.desk import Desk
from reason.errors import (Missing, Mixed, NoRow, NoText, Present, ReasonError, Ring, TooMany, Twice, Unlike, Unsafe,
                           Wide)

PATHS = ("rule path X Y if edge X Y", "rule path X Z if edge X Y, path Y Z")


def desk_with(*rows):
    desk = Desk()
    for row in rows:
        desk.say(row)
    return desk


def shown(desk):
    """What a desk has, by its rows and its keeper."""
    keeper = desk.keeper
    return keeper.rules(), keeper.told(), keeper.facts(), keeper.paper()


class DeedsTest(unittest.TestCase):
    def test_put_and_take(self):
        desk = desk_with(*PATHS)
        self.assertEqual(desk.say("put edge a b"), ["+ edge a b", "+ path a b"])
        self.assertEqual(desk.say("put edge b c"), ["+ edge b c", "+ path a c", "+ path b c"])
        self.assertEqual(desk.say("put path a c"), [])
        self.assertEqual(desk.say("take edge a b"), ["- edge a b", "- path a b"])
        self.assertEqual(desk.say("take path a c"), ["- path a c"])

    def test_a_rule_in_and_out(self):
        desk = desk_with("put edge 1 2", "put edge -3 1")
        self.assertEqual(desk.say(PATHS[0]), ["1", "+ path -3 1", "+ path 1 2"])
        self.assertEqual(desk.say(PATHS[1]), ["2", "+ path -3 2"])
        self.assertEqual(desk.say("drop 1"), ["- path -3 1", "- path -3 2", "- path 1 2"])
        self.assertEqual(desk.say("drop 2"), [])
        self.assertEqual(desk.say("rule p if q"), ["3"])

    def test_what_is_gone_ahead_of_what_has_come(self):
        desk = desk_with("rule out X if node X, not in X", "put node b", "put node a")
        self.assertEqual(desk.say("put in b"), ["- out b", "+ in b"])
        self.assertEqual(desk.say("take in b"), ["- in b", "+ out b"])
        self.assertEqual(desk.say("rule in a if node a"), ["2", "- out a", "+ in a"])
        self.assertEqual(desk.say("rule in z if node b"), ["3", "+ in z"])
        self.assertEqual(desk.say("drop 2"), ["- in a", "+ out a"])

    def test_groups(self):
        desk = desk_with("rule total D sum N if paid D N", "rule few D least N if paid D N",
                         "rule many D count if paid D N")
        self.assertEqual(desk.say("put paid d 5"), ["+ few d 5", "+ many d 1", "+ paid d 5", "+ total d 5"])
        self.assertEqual(desk.say("put paid d -2"), ["- few d 5", "- many d 1", "- total d 5",
                                                     "+ few d -2", "+ many d 2", "+ paid d -2", "+ total d 3"])

    def test_two_desks_have_nothing_of_one_another(self):
        one, other = Desk(), Desk()
        one.say("put p")
        self.assertEqual((one.say("facts p"), other.say("facts p")), (["p"], []))


class AskedTest(unittest.TestCase):
    def setUp(self):
        self.desk = desk_with(*PATHS, "put edge a b", "put edge b c", "put edge a c", "put edge 10 9", "put edge -1 a",
                              "rule many X count if path X Y", "rule apart X Y if node X, node Y, not path X Y",
                              "put node a", "put node c", "rule start if under 1 2", "rule ready if start, node a")

    def test_facts(self):
        self.assertEqual(self.desk.say("facts edge"), ["edge -1 a", "edge 10 9", "edge a b", "edge a c", "edge b c"])
        self.assertEqual(self.desk.say("facts start"), ["start"])
        self.assertEqual(self.desk.say("facts nowhere"), [])
        self.assertEqual(self.desk.say("facts many"), ["many -1 3", "many 10 1", "many a 2", "many b 1"])

    def test_why(self):
        self.assertEqual(self.desk.say("why edge a b"), ["edge a b told"])
        self.assertEqual(self.desk.say("why path b c"), ["edge b c told", "path b c by 1, edge b c"])
        self.assertEqual(self.desk.say("why path -1 b"), ["edge -1 a told", "edge a b told", "path a b by 1, edge a b",
                                                          "path -1 b by 2, edge -1 a, path a b"])
        self.assertEqual(self.desk.say("why many a 2"), ["many a 2 by group 3"])
        self.assertEqual(self.desk.say("why start"), ["start by 5"])
        self.assertEqual(self.desk.say("why ready"), ["node a told", "start by 5", "ready by 6, start, node a"])
        self.assertEqual(self.desk.say("why apart c a"),
                         ["node a told", "node c told", "apart c a by 4, node c, node a"])

    def test_cost(self):
        costs = {"edge a b": 1, "path a b": 2, "path a c": 2, "path -1 b": 4, "start": 1, "ready": 3}
        for fact, cost in costs.items():
            self.assertEqual(self.desk.say("cost " + fact), [str(cost)])

    def test_many(self):
        for fact, many in (("edge a b", 1), ("path a c", 2), ("path -1 c", 2), ("start", 1)):
            for bound in (1, 2, 3, 999_999_999):
                self.assertEqual(self.desk.say(f"many {bound} {fact}"), [str(min(bound, many))])
        self.desk.say("put edge c a")
        self.assertEqual(self.desk.say("many 77 path a c"), ["77"])

    def test_sets_falls_and_needs(self):
        self.assertEqual(self.desk.say("sets path a c"), ["edge a c", "edge a b, edge b c"])
        self.assertEqual(self.desk.say("falls path a c"), ["edge a b, edge a c", "edge a c, edge b c"])
        self.assertEqual(self.desk.say("needs path a c"), [])
        self.assertEqual(self.desk.say("sets path -1 c"), ["edge -1 a, edge a c", "edge -1 a, edge a b, edge b c"])
        self.assertEqual(self.desk.say("needs path -1 c"), ["edge -1 a"])
        self.assertEqual(self.desk.say("needs path -1 b"), ["edge -1 a", "edge a b"])
        self.assertEqual(self.desk.say("sets start"), ["none"])
        self.assertEqual(self.desk.say("falls start"), [])
        self.assertEqual(self.desk.say("needs start"), [])
        self.assertEqual(self.desk.say("falls ready"), ["node a"])

    def test_lack(self):
        self.assertEqual(self.desk.say("lack path c a"), ["1 literal 0", "2 literal 0"])
        self.assertEqual(self.desk.say("lack path b a"), ["1 literal 0", "2 literal 1"])
        self.assertEqual(self.desk.say("lack many a 7"), ["3 other 2"])
        self.assertEqual(self.desk.say("lack many c 0"), ["3 literal 0"])
        self.assertEqual(self.desk.say("lack apart a c"), ["4 literal 2"])
        self.assertEqual(self.desk.say("lack edge x y"), [])
        self.assertEqual(self.desk.say("lack nowhere"), [])
        self.assertEqual(self.desk.say("lack path a"), [])
        self.desk.say("rule first least N if edge a N")
        self.assertEqual(self.desk.say("lack first 3"), ["7 nothing"])
        self.desk.say("put edge a -6")
        self.assertEqual(self.desk.say("lack first 3"), ["7 other -6"])
        self.desk.say("rule path 1 1 if node a, node b")
        self.assertEqual(self.desk.say("lack path 1 1"), ["1 literal 0", "2 literal 0", "8 literal 1"])
        self.assertEqual(self.desk.say("lack path 1 2"), ["1 literal 0", "2 literal 0", "8 head"])

    def test_ask(self):
        self.assertEqual(self.desk.say("ask path a ?"), ["path a b", "path a c"])
        self.assertEqual(self.desk.say("ask path ? c"), ["path -1 c", "path a c", "path b c"])
        self.assertEqual(self.desk.say("ask path 10 9"), ["path 10 9"])
        self.assertEqual(self.desk.say("ask path 9 10"), [])
        self.assertEqual(len(self.desk.say("ask path ? ?")), 7)
        self.assertEqual(self.desk.say("ask start"), ["start"])
        self.assertEqual(self.desk.say("ask many ? 1"), ["many 10 1", "many b 1"])
        self.assertEqual(self.desk.say("ask edge ? b"), ["edge a b"])

    def test_ask_of_a_predicate_that_stands_nowhere(self):
        for row in ("ask nowhere", "ask nowhere ?", "ask nowhere a 1 ? ?", "ask nowhere ? ? ? ? ? a"):
            self.assertEqual(self.desk.say(row), [])

    def test_ask_with_another_number_of_places(self):
        for row in ("ask path", "ask path ?", "ask path a b ?", "ask edge ?", "ask start ?", "ask many a",
                    "ask path ? ? ? ? ?"):
            self.assertRaises(Unlike, self.desk.say, row)

    def test_a_predicate_in_a_body_alone_has_places(self):
        desk = desk_with("rule p if q X Y")
        self.assertEqual(desk.say("ask q ? ?"), [])
        self.assertRaises(Unlike, desk.say, "ask q ?")

    def test_asking_changes_nothing(self):
        before = shown(self.desk)
        for row in ("facts path", "why path a c", "cost path a c", "many 5 path a c", "sets path a c", "falls path a c",
                    "needs path a c", "lack path c a", "ask path ? ?"):
            said = self.desk.say(row)
            said.clear()
            self.desk.say(row).append("more")
            self.assertNotIn("more", self.desk.say(row))
        self.assertEqual(shown(self.desk), before)


class Rows:
    """Rows that are refused, at a desk that stays as it was."""

    def setUp(self):
        self.desk = desk_with(*PATHS, "put edge a b")
        self.before = shown(self.desk)

    def tearDown(self):
        self.assertEqual(shown(self.desk), self.before)

    def refused(self, *rows):
        for row in rows:
            with self.subTest(row=row):
                self.assertRaises(self.error, self.desk.say, row)


class NoRowTest(Rows, unittest.TestCase):
    error = NoRow

    def test_no_texts(self):
        self.refused(None, True, 0, 7, 1.5, [], ["facts edge"], (), ("facts", "edge"), {}, {"facts": "edge"},
                     b"facts edge", Agrees(), object(), str, ["facts", "edge"], set())

    def test_other_rows(self):
        self.refused("", " ", "  ", "edge a b", "Facts edge", "fact edge", "facts", "facts\tedge", " facts edge",
                     "\nfacts edge", "tell edge a b", "rules", "quit ", "FACTS edge", "facts  edge", "factsedge",
                     "lacks edge a b", "need edge")

    def test_a_word_too_few(self):
        self.refused("rule", "drop", "put", "take", "facts", "why", "cost", "many", "sets", "falls", "needs", "lack",
                     "ask", "many 5", "many ", "drop ", "many edge")

    def test_a_word_too_many(self):
        self.refused("drop 1 2", "drop 1 ", "facts edge a", "facts edge ", "facts  ", "facts Edge a", "facts a b c")

    def test_numbers(self):
        for number in ("01", "00", "-1", "+1", "1234567890", "0000000001", "x", "1x", "1.0", "", "one", "-0", "1\n",
                       "\u0661", "1_0", "?", "\u00b2"):
            self.refused(f"drop {number}", f"many {number} edge a b")
        self.refused("many 0 edge a b", "many  5 edge a b", "many 0 X", "many 01 X")
        self.assertRaises(Missing, self.desk.say, "drop 0")
        self.assertRaises(Missing, self.desk.say, "drop 999999999")
        self.assertEqual(self.desk.say("many 999999999 edge a b"), ["1"])
        self.assertEqual(self.desk.say("many 100000000 edge a b"), ["1"])


class NoTextTest(Rows, unittest.TestCase):
    error = NoText
    FACTS = ("", " ", "Edge a b", "edge a  b", "edge a b ", " edge a b", "edge X b", "edge a, b", "edge 01", "edge -0",
             "edge +1", "edge a b c d e", "if", "edge not", "edge a\n", "12", "edge " + "1" * 31, "abcdefghi",
             "edge abcdefghi", "edge ?")

    def test_facts(self):
        for word in ("put", "take", "why", "cost", "many 5", "sets", "falls", "needs", "lack"):
            self.refused(*[f"{word} {text}" for text in self.FACTS])

    def test_rules(self):
        for text in ("", "p", "p if", "p if ", "if q", "p X if q X,", "p X if q X , r X", "p X if q X,r X", "p  if q",
                     "p if q ", " p if q", "p if if", "P if q", "p if q, q, q, q, q", "p if q A B, q C D, q E A",
                     "p sum if q X", "p if under 1", "p if not", "p X if q 01", "p if q if r"):
            self.refused("rule " + text)

    def test_predicates(self):
        for name in ("", "Edge", "not", "12", "?", "abcdefghi", "a1", "edge,", "edge\n", "-1"):
            self.refused(f"facts {name}", f"ask {name}", f"ask {name} a b", f"ask {name} ? ?")

    def test_places(self):
        for place in ("", "X", "??", "01", "-0", "if", "1" * 31, "a.", "-", "abcdefghi", "a\n", "None"):
            self.refused(f"ask edge {place} ?", f"ask edge ? {place}", f"ask edge {place}", f"ask edge ? ? {place}",
                         f"ask nowhere {place}")
        self.assertEqual(self.desk.say("ask edge " + "9" * 30 + " ?"), [])


class RefusedTest(unittest.TestCase):
    def setUp(self):
        self.desk = desk_with(*PATHS, "rule apart X Y if node X, node Y, not path X Y", "rule many count if node X",
                              "rule some if node X", "put edge a b", *[f"put node {number}" for number in range(9)])
        self.before = shown(self.desk)

    def refused(self, error, *rows):
        for row in rows:
            with self.subTest(row=row):
                with self.assertRaises(ReasonError) as caught:
                    self.desk.say(row)
                self.assertIs(caught.exception.__class__, error)
                self.assertEqual(shown(self.desk), self.before)

    def test_deeds(self):
        self.refused(Twice, "put edge a b", PATHS[0], "rule some if node X")
        self.refused(Unlike, "put edge a", "rule p if edge X", "rule node X Y if edge X Y", "rule some X if other Y")
        self.refused(Unsafe, "rule p X if q Y", "rule p if q X, under X Y", "rule p if not q X, q X",
                     "rule p sum N if q")
        self.refused(Ring, "rule path X Y if apart X Y", "rule p if not p", "rule node N if many N")
        self.refused(Missing, "drop 6", "drop 0", "take edge b a", "take path a b", "take nowhere", "take edge a")
        self.refused(TooMany, "rule big A B C D if node A, node B, node C, node D")

    def test_a_ring_is_told_with_its_value(self):
        with self.assertRaises(Ring) as caught:
            self.desk.say("rule p if not p")
        self.assertEqual(caught.exception.ring, ("p",))

    def test_a_refused_rule_takes_no_number(self):
        self.refused(NoText, "rule p if")
        self.refused(Unsafe, "rule p X if q Y")
        self.assertEqual(self.desk.say("rule p if q"), ["6"])

    def test_mixed(self):
        for word in ("cost", "many 3", "sets", "falls", "needs"):
            for fact in ("apart 1 2", "apart x y", "many 9", "many", "apart"):
                self.refused(Mixed, f"{word} {fact}")

    def test_missing(self):
        for word in ("cost", "many 3", "sets", "falls", "needs", "why"):
            for fact in ("edge b a", "path b a", "path a", "nowhere", "node"):
                self.refused(Missing, f"{word} {fact}")
        self.refused(Missing, "why apart a b", "why apart 1", "why many 3", "why many")

    def test_wide(self):
        for word in ("sets", "falls", "needs"):
            self.refused(Wide, f"{word} some")
        self.assertEqual(self.desk.say("cost some"), ["2"])
        self.assertEqual(self.desk.say("many 50 some"), ["9"])
        self.desk.say("take node 0")
        self.assertEqual(len(self.desk.say("sets some")), 8)

    def test_present(self):
        self.refused(Present, "lack edge a b", "lack path a b", "lack some", "lack apart 1 2", "lack many 9")

    def test_the_first_that_is_due(self):
        self.refused(NoText, "rule path X if", "put Edge a", "ask Edge a", "ask edge X", "ask edge ? ? X")
        self.refused(NoRow, "many 0 apart 1 2", "many 0 Edge", "many x Edge")
        self.refused(Twice, PATHS[1])
        self.refused(Unlike, "rule path X if edge Y", "rule edge X if not edge X, q Z")
        self.refused(Unsafe, "rule p X if not p Y")


class BoundsTest(unittest.TestCase):
    def test_thirty_rules_and_wide_bodies(self):
        desk = desk_with(*[f"put e {one} {other}" for one in range(12) for other in range(12)], "put f 3 4")
        for number in range(1, 26):
            desk.say(f"rule p {number % 12} X if f X Y, unlike X {number}")
        for number in range(26, 30):
            desk.say(f"rule q A {number % 12} if e A B, e B C, e C D, f A B")
        self.assertEqual(desk.say("rule n A count if e A B, e B C, e C D")[0], "30")
        self.assertEqual(desk.say("ask q ? 2"), ["q 3 2"])
        self.assertEqual(desk.say("facts n")[-1], "n 11 1728")
        self.assertEqual(desk.say("lack n 5 7"), ["30 other 1728"])
        self.assertEqual(desk.say("lack q 4 2"), [f"{number} " + ("literal 3" if number == 26 else "head")
                                                  for number in range(26, 30)])
        self.assertEqual((desk.say("cost q 3 2"), desk.say("many 999999999 q 3 2")), (["5"], ["144"]))
        self.assertRaises(Wide, desk.say, "sets q 3 2")
        self.assertEqual((desk.say("falls p 0 3"), desk.say("needs p 0 3")), (["f 3 4"], ["f 3 4"]))


class ReadAgainTest(unittest.TestCase):
    def test_facts_told_are_taken_again(self):
        desk = desk_with("put p -5 a", "put p 0 b", "put q", "put r " + "8" * 30)
        for fact in desk.say("facts p") + desk.say("facts q") + desk.say("facts r"):
            self.assertEqual(desk.say("take " + fact), ["- " + fact])
        self.assertEqual(desk.keeper.facts(), [])

    def test_sums_of_more_than_thirty_figures_are_told(self):
        desk = desk_with("rule total sum N if paid X N", *[f"put paid {name} " + "9" * 30 for name in "ab"])
        self.assertEqual(desk.say("facts total"), ["total " + str(2 * (10 ** 30 - 1))])
        self.assertRaises(NoText, desk.say, "why total " + str(2 * (10 ** 30 - 1)))


if __name__ == "__main__":
    unittest.main()
