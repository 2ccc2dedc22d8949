import itertools
import unittest

from helper import Agrees
from reason.terms import constant_before, fact_before, in_order, is_constant, is_fact, is_name, is_variable

THIRTY = 10 ** 30 - 1
WORDS = ("not", "if", "under", "unlike", "sum", "least", "count")
ODD_THINGS = (None, True, False, 1.0, 1.5, b"a", b"abc", [], ["a"], {}, {"a": 1}, set(), {"a"}, frozenset(), object(),
              int, len, (), ("a",), Agrees(), range(2), 1j, "", " ", "a b", "\n", "a\n", "\u00e4", "\u0430", "\u0661")


class NameTest(unittest.TestCase):
    def test_names(self):
        for thing in ("a", "z", "edge", "abcdefgh", "zzzzzzzz", "nots", "ifs", "yes", "counts", "un", "group", "told"):
            self.assertIs(is_name(thing), True, thing)

    def test_the_seven_words_are_none(self):
        for word in WORDS:
            self.assertIs(is_name(word), False, word)

    def test_none_and_nine_letters_are_none(self):
        self.assertIs(is_name(""), False)
        self.assertIs(is_name("abcdefghi"), False)
        self.assertIs(is_name("a" * 1000), False)

    def test_other_signs_are_none(self):
        for sign in "AZ019_- .,`{@[\u00e4\u0430\u00df\n":
            for thing in (sign, "a" + sign, sign + "a", "a" + sign + "a"):
                self.assertIs(is_name(thing), False, repr(thing))

    def test_odd_things_are_none(self):
        for thing in ODD_THINGS + (0, 1, -1, ["a", "b"]):
            self.assertIs(is_name(thing), False, repr(thing))


class ConstantTest(unittest.TestCase):
    def test_names_and_whole_numbers(self):
        for thing in ("a", "abcdefgh", 0, 1, -1, 12, THIRTY, -THIRTY, 10 ** 900):
            self.assertIs(is_constant(thing), True, thing)

    def test_others(self):
        for thing in ODD_THINGS + WORDS + ("X", "Xa", "a1", "12", "-1", "abcdefghi"):
            self.assertIs(is_constant(thing), False, repr(thing))


class VariableTest(unittest.TestCase):
    def test_variables(self):
        for thing in ("A", "Z", "X1", "Xa", "XA", "X0000000", "Abcdefgh", "ABCDEFGH", "Not", "NOT", "Az09aZ"):
            self.assertIs(is_variable(thing), True, thing)

    def test_others(self):
        for thing in ODD_THINGS + WORDS + ("a", "aX", "1X", "_X", "X_", "X-1", "X ", " X", "Abcdefghi", "X\u0661",
                                           "X\u00e4", "\u00c4", "\u0410", "X\n", 0, 1, "@", "[", "X@", "X[", "X`",
                                           "X{", "X/", "X:"):
            self.assertIs(is_variable(thing), False, repr(thing))


class FactTest(unittest.TestCase):
    def test_facts(self):
        for thing in (("p", ()), ("p", ("a",)), ("edge", ("a", 12)), ("p", (-1, 0, THIRTY, -THIRTY)),
                      ("abcdefgh", ("a", "a", "a", "a"))):
            self.assertIs(is_fact(thing), True, thing)

    def test_others(self):
        for thing in ODD_THINGS + ("p", "pq", 1, ("p",), ("p", (), ()), ["p", ()], ("p", []), ("p", ["a"]), ("p", "a"),
                                   ("p", None), ("p", {}), ("p", ("a", "a", "a", "a", "a")), ("p", ("X",)),
                                   ("P", ("a",)), (1, ("a",)), ("not", ("a",)), ("p", ("not",)), ("p", (True,)),
                                   ("p", (1, False)), ("p", (None,)), ("p", (1.0,)), ("p", (("a",),)), ("p", ("a", [])),
                                   ("p", (Agrees(),)), (Agrees(), ()), ("p", Agrees()), ((), ()), ("", ()),
                                   ("p", ("",))):
            self.assertIs(is_fact(thing), False, repr(thing))

    def test_what_is_handed_in_stays(self):
        thing = ("p", ["a"])
        is_fact(thing)
        self.assertEqual(thing, ("p", ["a"]))


class OrderTest(unittest.TestCase):
    constants = [-THIRTY, -10, -9, -1, 0, 1, 2, 9, 10, 11, THIRTY, "a", "aa", "ab", "abcdefgh", "b", "ba", "z"]
    facts = [("p", ()), ("p", (-2,)), ("p", (10,)), ("p", ("a",)), ("p", ("b",)), ("p", (-5, "z")), ("p", (1, 2)),
             ("p", (1, "a")), ("p", (9, 1)), ("p", (10, 0)), ("p", ("a", 5)), ("p", ("a", "a")), ("p", ("b", 1)),
             ("p", (0, 0, 0)), ("p", (0, 0, "a")), ("p", (0, 0, 0, 0)), ("p", (0, 0, 0, 1)), ("pa", ()), ("q", ()),
             ("q", (3,))]

    def test_constants(self):
        for one, other in itertools.product(range(len(self.constants)), repeat=2):
            said = constant_before(self.constants[one], self.constants[other])
            self.assertIs(said, one < other, (one, other))

    def test_facts(self):
        for one, other in itertools.product(range(len(self.facts)), repeat=2):
            self.assertIs(fact_before(self.facts[one], self.facts[other]), one < other, (one, other))

    def test_in_order(self):
        self.assertEqual(in_order(self.facts[::-1]), self.facts)
        self.assertEqual(in_order(self.facts[7:] + self.facts[:7]), self.facts)
        self.assertEqual(in_order([]), [])

    def test_in_order_is_new_and_the_old_stays(self):
        for handed in (list(self.facts), self.facts[::-1], []):
            copy = list(handed)
            told = in_order(handed)
            self.assertIsInstance(told, list)
            self.assertIsNot(told, handed)
            told.append(("zz", ()))
            self.assertEqual(handed, copy)
            self.assertEqual(in_order(handed), told[:-1])


if __name__ == "__main__":
    unittest.main()
