import unittest

from helper import no, yes
from reason.matching import holds_by, met_by, replaced_by


class ReplacedTest(unittest.TestCase):
    def test_variables_are_replaced_and_constants_stay(self):
        self.assertEqual(replaced_by(("X", "a", 3, "Y", "X"), {"X": 7, "Y": "b"}), (7, "a", 3, "b", 7))
        self.assertEqual(replaced_by((), {"X": 7}), ())
        self.assertEqual(replaced_by(("a", -1), {}), ("a", -1))

    def test_a_name_is_no_variable_whatever_is_bound(self):
        self.assertEqual(replaced_by(("x", "X"), {"X": "x", "Y": "z"}), ("x", "x"))

    def test_a_tuple_is_told_and_the_binding_stays(self):
        binding = {"X": 1}
        self.assertIsInstance(replaced_by(("X",), binding), tuple)
        self.assertEqual(binding, {"X": 1})


class MetTest(unittest.TestCase):
    def test_what_is_needed_is_put_in(self):
        self.assertEqual(met_by(("X", "Y"), ("a", 1), {}), {"X": "a", "Y": 1})
        self.assertEqual(met_by(("X", "b", 3), (0, "b", 3), {}), {"X": 0})
        self.assertEqual(met_by((), (), {}), {})

    def test_constants_that_are_others(self):
        self.assertIsNone(met_by(("X", "b"), ("a", "c"), {}))
        self.assertIsNone(met_by((1,), ("a",), {}))
        self.assertIsNone(met_by(("a",), (1,), {}))
        self.assertIsNone(met_by((1, "X"), (2, 2), {}))

    def test_a_variable_that_stands_twice(self):
        self.assertEqual(met_by(("X", "X"), ("a", "a"), {}), {"X": "a"})
        self.assertIsNone(met_by(("X", "X"), ("a", "b"), {}))
        self.assertIsNone(met_by(("X", "Y", "X"), (1, 2, "a"), {}))

    def test_another_number_of_places(self):
        for terms, places in ((("X",), ()), ((), ("a",)), (("X", "Y"), ("a",)), (("X",), ("a", "b")), (("a",), ())):
            self.assertIsNone(met_by(terms, places, {}))

    def test_a_begun_binding(self):
        self.assertEqual(met_by(("X", "Y"), ("a", 1), {"X": "a", "Z": 5}), {"X": "a", "Y": 1, "Z": 5})
        self.assertIsNone(met_by(("X", "Y"), ("a", 1), {"X": "b"}))
        self.assertIsNone(met_by(("X",), (0,), {"X": 1}))
        self.assertEqual(met_by((), (), {"Z": 5}), {"Z": 5})
        self.assertEqual(met_by(("a",), ("a",), {"Z": 0}), {"Z": 0})

    def test_the_binding_is_new_and_the_begun_one_stays(self):
        for terms, places in ((("X",), ("a",)), ((), ()), (("Z",), (5,)), (("X", "X"), (1, 2))):
            begun = {"Z": 5}
            told = met_by(terms, places, begun)
            self.assertEqual(begun, {"Z": 5})
            if told is not None:
                told["Z"] = 6
                self.assertEqual(begun, {"Z": 5})


class HoldsTest(unittest.TestCase):
    facts = [("p", ("a",)), ("q", ("a", 1)), ("r", ())]

    def holds(self, *body, **binding):
        said = holds_by(body, binding, self.facts)
        self.assertIsInstance(said, bool)
        return said

    def test_yes(self):
        self.assertTrue(self.holds(yes("p", "X"), X="a"))
        self.assertFalse(self.holds(yes("p", "X"), X="b"))
        self.assertTrue(self.holds(yes("q", "X", "Y"), yes("r"), X="a", Y=1))
        self.assertFalse(self.holds(yes("s")))
        self.assertFalse(self.holds(yes("q", "a")))

    def test_not(self):
        self.assertFalse(self.holds(no("p", "X"), X="a"))
        self.assertTrue(self.holds(no("p", "X"), X="b"))
        self.assertTrue(self.holds(no("s")))
        self.assertFalse(self.holds(no("r")))

    def test_under(self):
        for one, other, said in ((1, 2, True), (-2, -1, True), (2, 1, False), (1, 1, False), (0, 10 ** 29, True),
                                 (1, "a", False), ("a", 1, False), ("a", "b", False), ("b", "a", False),
                                 (-10 ** 29, 0, True), (9, 10, True)):
            self.assertIs(self.holds(("under", "X", "Y"), X=one, Y=other), said)
            self.assertIs(self.holds(("under", one, other)), said)
            self.assertIs(self.holds(("under", one, "Y"), Y=other), said)

    def test_unlike(self):
        for one, other, said in ((1, 2, True), (1, 1, False), ("a", "a", False), ("a", "b", True), (1, "a", True),
                                 ("a", 1, True), (0, -1, True)):
            self.assertIs(self.holds(("unlike", "X", "Y"), X=one, Y=other), said)
            self.assertIs(self.holds(("unlike", one, "Y"), Y=other), said)

    def test_every_literal_must_hold(self):
        literals = (yes("p", "X"), no("p", "Y"), ("under", "Y", 3), ("unlike", "X", "Y"))
        self.assertTrue(self.holds(*literals, X="a", Y=1))
        for wrong in (yes("p", "Y"), no("p", "X"), ("under", 3, "Y"), ("unlike", "X", "X")):
            for place in range(len(literals) + 1):
                self.assertFalse(self.holds(*literals[:place], wrong, *literals[place:], X="a", Y=1))

    def test_other_variables_do_no_harm(self):
        self.assertTrue(self.holds(yes("p", "X"), X="a", Z=1, W="p"))

    def test_what_is_handed_in_stays(self):
        facts, binding = list(self.facts), {"X": "a", "Z": 1}
        holds_by((yes("p", "X"), no("r")), binding, facts)
        self.assertEqual((facts, binding), (self.facts, {"X": "a", "Z": 1}))


if __name__ == "__main__":
    unittest.main()
