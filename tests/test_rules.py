import copy
import unittest

from helper import Agrees, no, yes
from reason.errors import Unlike
from reason.rules import is_group, is_rule, is_safe, rule_variables, widths_of

BODY = (yes("q", "X"),)


def with_head(*terms):
    return ("p", terms, BODY)


def with_body(*literals):
    return ("p", (), literals)


class IsRuleTest(unittest.TestCase):
    def is_one(self, *things):
        for thing in things:
            self.assertIs(is_rule(thing), True, repr(thing))

    def is_none(self, *things):
        for thing in things:
            self.assertIs(is_rule(thing), False, repr(thing))

    def test_ordinary_rules(self):
        self.is_one(("path", ("X", "Z"), (yes("edge", "X", "Y"), yes("path", "Y", "Z"))),
                    ("p", ("a", 12, "X"), (yes("q", "X", -3), no("r", "X"), ("under", "X", 5), ("unlike", "X", "a"))),
                    ("yes", (), (yes("yes"),)))

    def test_none_to_four_head_terms(self):
        for count in range(5):
            self.is_one(with_head(*["X"] * count), with_head(*["a", 1, "X", -1][:count]))
        self.is_none(with_head(*["X"] * 5))

    def test_none_to_four_literal_terms(self):
        for literal in (yes, no):
            for count in range(5):
                self.is_one(with_body(literal("q", *["X"] * count)))
            self.is_none(with_body(literal("q", *["X"] * 5)))

    def test_one_to_six_literals(self):
        self.is_none(with_body())
        for count in range(1, 7):
            self.is_one(with_body(*[no("q")] * count), with_body(*[("under", 1, 2)] * count))
        self.is_none(with_body(*[no("q")] * 7))

    def test_at_most_four_yes(self):
        self.is_one(with_body(*[yes("q")] * 4), with_body(*[yes("q")] * 4, no("r"), ("unlike", 1, 2)))
        self.is_none(with_body(*[yes("q")] * 5), with_body(no("r"), *[yes("q")] * 5))

    def test_at_most_four_variables_in_all(self):
        four = yes("q", "A", "B", "C", "D")
        self.is_one(with_body(four), ("p", ("A", "B", "C", "D"), (four, no("q", "D", "C", "B", "A"))),
                    ("p", ("A", ("sum", "D")), (four,)))
        self.is_none(("p", ("E",), (four,)), with_body(four, yes("q", "E")), with_body(four, no("q", "E")),
                     with_body(four, ("under", "A", "E")), with_body(four, ("unlike", "E", "A")),
                     ("p", (("sum", "E"),), (four,)), ("p", (("least", "E"),), (four,)))

    def test_group_heads(self):
        for last in (("sum", "N"), ("least", "N"), ("count",)):
            self.is_one(with_head(last), with_head("X", last), with_head("X", "a", 3, last))
            self.is_none(with_head("X", "X", "X", "X", last), with_head(last, "X"), with_head(last, last),
                         with_body(yes("q", last)), with_body(("under", last, 1)), with_head(list(last)))
        self.is_none(with_head(("sum",)), with_head(("least",)), with_head(("count", "N")), with_head(("sum", "n")),
                     with_head(("sum", 1)), with_head(("sum", "N", "M")), with_head(("most", "N")), with_head(()),
                     with_head(("sum", None)), with_head((1, "N")), with_head("sum"), with_head("count"),
                     with_head(("sum", ("N",))), with_head(("Count",)), with_head((Agrees(),)),
                     with_head((Agrees(), "N")))

    def test_unsafe_rules_are_rules(self):
        self.is_one(with_head("Y"), with_body(no("q", "X")), with_body(("under", "X", "Y")), with_head(("sum", "N")))

    def test_rules_that_do_not_fit_themselves_are_rules(self):
        self.is_one(("p", (), (yes("p", "X"), yes("p", "X", "Y"))))

    def test_wrong_predicates_and_terms(self):
        for wrong in ("", "P", "not", "abcdefghi", "a1", 1, None, True, ("p",), ["p"], b"p"):
            self.is_none((wrong, (), BODY), with_body(yes(wrong)), with_body(no(wrong)))
        for wrong in ("", "not", "x1", "Abcdefghi", None, True, False, 1.0, ("X",), ["X"], (), b"a", Agrees()):
            self.is_none(with_head(wrong), with_body(yes("q", wrong)), with_body(no("q", wrong)),
                         with_body(("under", wrong, 1)), with_body(("under", 1, wrong)),
                         with_body(("unlike", wrong, 1)), with_body(("unlike", 1, wrong)))

    def test_wrong_literals(self):
        for wrong in (None, True, 1, "yes", "not", (), ("yes",), ("yes", "q"), ("yes", "q", (), ()), ["yes", "q", ()],
                      ("yes", "q", []), ("yes", "q", ["X"]), ("not", "q", []), ("yes", "q", "X"), ("yes", "q", None),
                      ("under", 1), ("under", 1, 2, 3), ["under", 1, 2], ("over", 1, 2), ("like", "X", "Y"),
                      ("Yes", "q", ()), (1, "q", ()), (None, "q", ()), (True, 1, 2), ([], "q", ()), (("yes",), "q", ()),
                      ("under", (1, 2)), ("q", ("X",)), (Agrees(), "q", ()), (Agrees(), 1, 2), ("if", 1, 2), {}):
            self.is_none(with_body(wrong), with_body(yes("q"), wrong))

    def test_things_of_any_kind(self):
        for wrong in (None, True, False, 0, 1, 1.5, "", "abc", b"abc", [], {}, set(), object(), int, (), ("p",),
                      ("p", ()), ("p", (), BODY, ()), ["p", (), BODY], ("p", [], BODY), ("p", ["X"], BODY),
                      ("p", (), list(BODY)), ("p", (), BODY[0]), ("p", None, BODY), ("p", (), None), ("p", "X", BODY),
                      ("p", (), "abc"), ("p", {}, BODY), ("p", (), {}), Agrees(), ("p", Agrees(), BODY),
                      ("p", (), Agrees())):
            self.is_none(wrong)

    def test_what_is_handed_in_stays(self):
        thing = ("p", ["X"], [["yes", "q", ["X"]]])
        kept = copy.deepcopy(thing)
        is_rule(thing)
        self.assertEqual(thing, kept)


class IsGroupTest(unittest.TestCase):
    def test_group_rules(self):
        for last in (("sum", "X"), ("least", "X"), ("count",)):
            self.assertIs(is_group(with_head(last)), True)
            self.assertIs(is_group(with_head("X", 1, "a", last)), True)

    def test_others(self):
        for rule in (with_head(), with_head("X"), with_head("a", 1, "X", "Y"), with_body(no("q"))):
            self.assertIs(is_group(rule), False)


class VariablesTest(unittest.TestCase):
    def test_all_variables_sorted_and_once(self):
        self.assertEqual(rule_variables(("p", ("Z", "a", "X", "Z"), (yes("q", "Y", 3, "X"), no("r", "X"))),),
                         ["X", "Y", "Z"])
        self.assertEqual(rule_variables(with_body(("under", "B", "A"), ("unlike", "C", "A"))), ["A", "B", "C"])
        self.assertEqual(rule_variables(with_body(yes("q", "a", 1))), [])

    def test_in_the_order_of_texts(self):
        self.assertEqual(rule_variables(with_body(yes("q", "Xa", "X", "X1", "XA"))), ["X", "X1", "XA", "Xa"])

    def test_the_grouped_one_too(self):
        self.assertEqual(rule_variables(("p", ("X", ("sum", "N")), BODY)), ["N", "X"])
        self.assertEqual(rule_variables(("p", (("least", "N"),), (yes("q"),))), ["N"])
        self.assertEqual(rule_variables(("p", ("Y", ("count",)), BODY)), ["X", "Y"])

    def test_the_list_is_new(self):
        rule = with_head("X")
        rule_variables(rule).append("Y")
        self.assertEqual(rule_variables(rule), ["X"])


class SafeTest(unittest.TestCase):
    def is_one(self, *rules):
        for rule in rules:
            self.assertIs(is_safe(rule), True, rule)

    def is_none(self, *rules):
        for rule in rules:
            self.assertIs(is_safe(rule), False, rule)

    def test_variables_of_the_head(self):
        self.is_one(with_head("X"), with_head("X", "a", 1, "X"), with_head(), with_head("a"),
                    ("p", ("Y", "X"), (yes("q", "X"), yes("q", "Y"))))
        self.is_none(with_head("Y"), with_head("X", "Y"), ("p", ("X",), (no("q"),)))

    def test_the_grouped_one_too(self):
        for kind in ("sum", "least"):
            self.is_one(with_head((kind, "X")), with_head("X", (kind, "X")))
            self.is_none(with_head((kind, "N")), with_head("X", (kind, "N")), with_head("N", (kind, "X")))
        self.is_one(with_head(("count",)), with_head("X", ("count",)))
        self.is_none(with_head("Y", ("count",)))

    def test_a_head_variable_in_a_not_alone(self):
        self.is_none(("p", ("X",), (yes("q", "Y"), no("r", "X"))), ("p", ("X",), (yes("q", "Y"), ("unlike", "X", "Y"))))

    def test_in_a_yes_ahead_and_not_only_behind(self):
        for guard in (no("r", "X"), ("under", "X", 1), ("under", 1, "X"), ("unlike", "X", "a"), ("unlike", "a", "X")):
            self.is_one(with_body(yes("q", "X"), guard), with_body(yes("q", "X"), yes("q", "Y"), guard),
                        with_body(yes("q", "X"), guard, yes("q", "X")))
            self.is_none(with_body(guard), with_body(guard, yes("q", "X")), with_body(yes("q", "Y"), guard),
                         with_body(yes("q", "Y"), guard, yes("q", "X")))

    def test_each_variable_of_a_guard(self):
        for guard in (no("r", "X", "Y"), ("under", "X", "Y"), ("unlike", "Y", "X")):
            self.is_one(with_body(yes("q", "X"), yes("q", "Y"), guard), with_body(yes("q", "X", "Y"), guard))
            self.is_none(with_body(yes("q", "X"), guard, yes("q", "Y")), with_body(yes("q", "Y"), guard))

    def test_a_not_ahead_gives_no_variable(self):
        self.is_none(with_body(no("r", "X"), ("under", "X", 1), yes("q", "X")))

    def test_guards_of_constants_stand_anywhere(self):
        self.is_one(with_body(no("r", "a", 1)), with_body(("under", 1, 2)),
                    with_body(("unlike", "a", 1), yes("q", "X")))

    def test_whatever_the_numbers_of_places(self):
        self.is_one(("p", ("X",), (yes("p", "X"), yes("p", "X", "X"), no("p"))))


class WidthsTest(unittest.TestCase):
    rules = {3: ("path", ("X", "Z"), (yes("edge", "X", "Y", 1), no("off"), ("under", 1, 2))),
             7: ("many", ("X", ("count",)), (yes("path", "X", "Y"), ("unlike", "X", "Y"))),
             9: ("all", (("sum", "N"),), (yes("num", "N"),))}
    told = [("edge", ("a", "b", 1)), ("lone", ()), ("four", (1, 2, 3, 4))]

    def test_of_rules_and_told_facts(self):
        self.assertEqual(widths_of(self.rules, self.told), {"path": 2, "edge": 3, "off": 0, "many": 2, "all": 1,
                                                            "num": 1, "lone": 0, "four": 4})
        self.assertEqual(widths_of({}, []), {})

    def test_two_numbers_of_places(self):
        for rule in (("path", ("X",), (yes("q", "X"),)), ("q", (), (yes("path"),)), ("q", (), (no("edge", 1),)),
                     ("q", (), (yes("q", 1),)), ("q", (), (yes("r"), no("r", 1))), ("off", (("count",),), (yes("r"),)),
                     ("many", (("count",),), (yes("r"),)), ("q", ("X",), (yes("r", "X"), yes("r", "X", "X")))):
            with self.assertRaises(Unlike):
                widths_of({**self.rules, 12: rule}, self.told)
        for fact in (("path", ("a",)), ("edge", ("a", "b")), ("off", (1,)), ("many", (1,)), ("lone", (1,)),
                     ("all", ())):
            with self.assertRaises(Unlike):
                widths_of(self.rules, self.told + [fact])
        with self.assertRaises(Unlike):
            widths_of({}, [("p", ()), ("p", (1,))])

    def test_unsafe_rules_too(self):
        self.assertEqual(widths_of({1: ("p", ("Y",), (no("q", "X", "X"),))}, []), {"p": 1, "q": 2})

    def test_what_is_handed_in_stays_and_the_dict_is_new(self):
        rules, told = dict(self.rules), list(self.told)
        widths = widths_of(rules, told)
        kept = dict(widths)
        widths.clear()
        self.assertEqual(widths_of(rules, told), kept)
        self.assertEqual((rules, told), (self.rules, self.told))


if __name__ == "__main__":
    unittest.main()
