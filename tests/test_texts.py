import random
import unittest

from helper import no, some_facts, some_rule, yes
from reason.errors import NoText
from reason.rules import is_rule, is_safe
from reason.terms import is_fact
from reason.texts import fact_text, read_fact, read_rule, rule_text

WORDS = ("not", "if", "under", "unlike", "sum", "least", "count")
LONG = 10 ** 30 - 1

FACTS = ((("edge", ("a", 12)), "edge a 12"), (("p", ()), "p"), (("p", (0,)), "p 0"), (("p", (-7,)), "p -7"),
         (("p", ("a", "b", "c", "d")), "p a b c d"), (("abcdefgh", ("zzzzzzzz",)), "abcdefgh zzzzzzzz"),
         (("p", (LONG, -LONG)), "p " + "9" * 30 + " -" + "9" * 30), (("p", (10, 100)), "p 10 100"),
         (("notable", ("iffy", "sums", "counts", "unders")), "notable iffy sums counts unders"),
         (("yes", ("no", "told")), "yes no told"), (("leasts", ("unlikely",)), "leasts unlikely"))

RULES = ((("path", ("X", "Z"), (yes("edge", "X", "Y"), yes("path", "Y", "Z"))), "path X Z if edge X Y, path Y Z"),
         (("p", (), (yes("q"),)), "p if q"), (("p", (), (no("q"),)), "p if not q"),
         (("p", ("X", 1, "a", -20), (yes("q", "X", "X", 0, "b"),)), "p X 1 a -20 if q X X 0 b"),
         (("p", ("X",), (yes("q", "X"), no("edge", "X", "a"))), "p X if q X, not edge X a"),
         (("p", ("X",), (yes("q", "X", "Y"), ("under", "X", "Y"), ("unlike", "Y", "a"))),
          "p X if q X Y, under X Y, unlike Y a"),
         (("p", (), (("under", -1, "b"), ("unlike", 0, LONG))), "p if under -1 b, unlike 0 " + "9" * 30),
         (("total", ("D", ("sum", "N")), (yes("sale", "D", "M", "N"),)), "total D sum N if sale D M N"),
         (("few", ("D", ("least", "N")), (yes("sale", "D", "M", "N"),)), "few D least N if sale D M N"),
         (("many", ("D", ("count",)), (yes("sale", "D", "M", "N"),)), "many D count if sale D M N"),
         (("all", (("sum", "N"),), (yes("q", "N"),)), "all sum N if q N"),
         (("all", (("least", "N"),), (yes("q", "N"),)), "all least N if q N"),
         (("all", (("count",),), (no("q"),)), "all count if not q"),
         (("n", ("a", 1, "X", ("count",)), (yes("q", "X"),)), "n a 1 X count if q X"),
         (("n", ("a", 1, "X", ("sum", "X")), (yes("q", "X"),)), "n a 1 X sum X if q X"),
         (("notes", ("iff",), (yes("nots", "sums"), no("undertow", "ifs"), yes("unliked"))),
          "notes iff if nots sums, not undertow ifs, unliked"),
         (("yes", (), (yes("yes", "yes"), no("yes", "yes"))), "yes if yes yes, not yes yes"),
         (("p", (), (yes("q", "Abc12XyZ"), yes("q", "Not"), yes("q", "If"), yes("q", "A"))),
          "p if q Abc12XyZ, q Not, q If, q A"),
         (("p", (), (no("a"),) * 6), "p if not a, not a, not a, not a, not a, not a"))


class FactsTest(unittest.TestCase):
    def test_written_and_read(self):
        for fact, text in FACTS:
            self.assertEqual(fact_text(fact), text)
            self.assertEqual(read_fact(text), fact)

    def test_kinds_are_read_as_they_were(self):
        fact = read_fact("p 1 a")
        self.assertIs(is_fact(fact), True)
        self.assertEqual([place.__class__ for place in fact[1]], [int, str])

    def test_longer_numbers_are_written_but_not_read(self):
        for number in (10 ** 30, -10 ** 30, 10 ** 60 + 1):
            text = fact_text(("p", (number,)))
            self.assertEqual(text, "p " + str(number))
            self.assertRaises(NoText, read_fact, text)

    def test_refused(self):
        for text in ("", " ", "p ", " p", "p  a", "p a ", " p a", "p a  b", "P", "P a", "p X", "p a X", "p A", "1",
                     "1 a", "-1", "p 01", "p 00", "p -0", "p -01", "p 000", "p -", "p --1", "p +1", "p 1.0", "p 1a",
                     "p a1", "p 1-", "p 1_0", "p 1e3", "p 0x1", "p " + "1" * 31, "p -" + "1" * 31, "p a b c d e",
                     "p 1 2 3 4 5", "abcdefghi", "p abcdefghi", "p\ta", "p a\n", "\np", "p\na", "p a,", "p,a", "p, a",
                     "p(a)", "p.", "p_a", "p a if q", "p if q", "p ?", "p \u0661", "p \u00b2", "\u00e9", "p \u00e9",
                     "p \uff11", "p\u00a0a", "pA", "p aB", "p 'a'", "p -a", "-p", "p a;", "p \x00"):
            self.assertRaises(NoText, read_fact, text)

    def test_the_seven_words_in_the_place_of_a_name(self):
        for word in WORDS:
            for text in (word, word + " a", "p " + word, "p a " + word, "p " + word + " a"):
                self.assertRaises(NoText, read_fact, text)


class RulesTest(unittest.TestCase):
    def test_written_and_read(self):
        for rule, text in RULES:
            self.assertEqual(rule_text(rule), text)
            self.assertEqual(read_rule(text), rule)
            self.assertIs(is_rule(read_rule(text)), True)

    def test_a_rule_is_read_though_it_is_not_safe_or_fit_or_without_layers(self):
        for text in ("p X if q", "p X if not p X", "p if under X Y", "p X sum Y if q X", "p if q X, q X Y, p X",
                     "p if p"):
            self.assertEqual(rule_text(read_rule(text)), text)
        self.assertIs(is_safe(read_rule("p X if q")), False)

    def test_longer_numbers_are_written_but_not_read(self):
        text = rule_text(("p", (10 ** 30,), (yes("q", -10 ** 30), ("under", 10 ** 30, 1))))
        self.assertEqual(text, "p 1" + "0" * 30 + " if q -1" + "0" * 30 + ", under 1" + "0" * 30 + " 1")
        self.assertRaises(NoText, read_rule, text)
        for text in ("p " + "1" * 31 + " if q", "p if q " + "1" * 31, "p if unlike -" + "1" * 31 + " 1"):
            self.assertRaises(NoText, read_rule, text)

    def test_refused(self):
        for text in ("", " ", "p", "p X", "edge a 12", "p if", "p if ", " if q", "if q", " if ", "if", "p  if q",
                     "p if  q", "p if q ", " p if q", "p if q,", "p if q, ", "p if q,r", "p if q ,r", "p if q , r",
                     "p if q,  r", "p if , q", "p if q, , r", "p if q;r", "p if q r, ", "p iff q", "p IF q", "pif q",
                     "p if q if r", "p if q, r if s", "p, r if q", "p if q.", "p :- q", "P if q", "p if Q", "p if Q X",
                     "1 if q", "p if 1", "p 01 if q", "p -0 if q", "p if q 01", "p if q -0", "p if under 00 1",
                     "p if q\n", "p\tif q", "p if\tq", "p if q x1", "p if q Xx_1", "p if q Abcdefghi",
                     "p abcdefghi if q", "p if abcdefghi", "p if q ?", "p if q \u00c9", "p if q X\u0661", "p if q -",
                     "p if q X,\nq Y", "p\nif q", "p if\nq"):
            self.assertRaises(NoText, read_rule, text)

    def test_refused_literals(self):
        for literal in ("not", "not ", "not  q", "not 1", "not X", "not not q", "not under 1 2", "not unlike 1 2",
                        "under", "under X", "under X Y Z", "under  X Y", "unlike", "unlike X", "unlike X Y Z",
                        "unlike not X", "under sum 1", "yes if", "q not", "q if X", "q sum X", "q X count", "q least X",
                        "sum X", "count", "least X", "if", "if q", "q a b c d e", "not q a b c d e", "under X, Y"):
            self.assertRaises(NoText, read_rule, "p if " + literal)
            self.assertRaises(NoText, read_rule, "p if q, " + literal)
            self.assertRaises(NoText, read_rule, "p if " + literal + ", q")

    def test_refused_heads(self):
        for head in ("count", "sum X", "least X", "sum", "not p", "p not", "p if", "p under", "under X Y", "p sum",
                     "p least", "p sum x", "p sum 1", "p least a", "p count X", "p count count", "p sum X sum X",
                     "p sum X count", "p sum count", "p sum X Y", "p X Y Z sum", "p a b c d count", "p a b c d sum X",
                     "p a b c d e", "p ", "p X  sum Y", "p sum  Y", "p count ", "p sUM X", "unlike X Y", "p sum sum"):
            self.assertRaises(NoText, read_rule, head + " if q")

    def test_what_is_more_than_a_rule_may_have(self):
        self.assertEqual(len(read_rule("p if " + ", ".join(["q"] * 4 + ["not q"] * 2))[2]), 6)
        self.assertRaises(NoText, read_rule, "p if " + ", ".join(["q"] * 4 + ["not q"] * 3))
        self.assertRaises(NoText, read_rule, "p if " + ", ".join(["q"] * 5))
        self.assertEqual(read_rule("p A B C D if q A, under B C")[1], ("A", "B", "C", "D"))
        self.assertRaises(NoText, read_rule, "p A B C D if q E")
        self.assertRaises(NoText, read_rule, "p A B C sum D if q E")
        self.assertRaises(NoText, read_rule, "p if q A B C, under D E")


class ChanceTest(unittest.TestCase):
    def test_what_is_written_is_read_to_the_same(self):
        chance = random.Random(20)
        for turn in range(500):
            rule = some_rule(chance)
            self.assertEqual(read_rule(rule_text(rule)), rule)
            for fact in some_facts(chance, 3):
                self.assertEqual(read_fact(fact_text(fact)), fact)

    def test_what_is_read_is_written_to_the_same(self):
        chance = random.Random(21)
        signs = ("p", "q", "X", "Y", "1", "-1", "0", "-", "if", " if ", "not", "under", "sum", "count", ",", ", ", " ",
                 " ", " ", "")
        read = 0
        for turn in range(60000):
            text = "p" + "".join(chance.choice(signs) for part in range(chance.randint(0, 9)))
            for reader, writer in ((read_fact, fact_text), (read_rule, rule_text)):
                try:
                    thing = reader(text)
                except NoText:
                    continue
                self.assertEqual(writer(thing), text)
                read += 1
        self.assertGreater(read, 2000)


if __name__ == "__main__":
    unittest.main()
