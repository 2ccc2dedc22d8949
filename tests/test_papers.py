import random
import unittest

from helper import books, no, numbered, plain_takes, some_facts, yes
from reason.meaning import meaning_of
from reason.papers import facts_of, takes
from reason.rounds import worked_paper

TOLD = ("told",)
A, B, C = ("q", ("a",)), ("q", ("b",)), ("q", ("c",))
PA, PB, PC = ("p", ("a",)), ("p", ("b",)), ("p", ("c",))


def rule(number, *used):
    return ("rule", number, used)


def group(number):
    return ("group", number)


class FactsOfTest(unittest.TestCase):
    def test_sorted_and_each_once(self):
        self.assertEqual(facts_of([]), [])
        self.assertEqual(facts_of([(PB, 0, TOLD), (A, 4, group(1)), (PA, 0, rule(1, A)), (PB, 2, rule(9))]),
                         [PA, PB, A])

    def test_the_paper_stays_and_the_list_is_new(self):
        paper = [(PB, 0, TOLD), (PA, 0, TOLD)]
        facts_of(paper).clear()
        self.assertEqual(facts_of(paper), [PA, PB])
        self.assertEqual(paper, [(PB, 0, TOLD), (PA, 0, TOLD)])


class ToldTest(unittest.TestCase):
    def test_the_empty_paper(self):
        self.assertIs(takes({}, [], []), True)
        self.assertIs(takes({}, [A], []), False)
        self.assertIs(takes(numbered(("p", ("X",), (yes("q", "X"),))), [], []), True)
        self.assertIs(takes(numbered(("p", (), (no("q"),))), [], []), False)
        self.assertIs(takes(numbered(("p", (), (("under", 1, 2),))), [], []), False)

    def test_each_told_fact_is_in_one_entry(self):
        self.assertIs(takes({}, [A, B], [(B, 0, TOLD), (A, 7, TOLD)]), True)
        self.assertIs(takes({}, [A, B], [(B, 0, TOLD)]), False)
        self.assertIs(takes({}, [A, B], [(B, 0, TOLD), (A, 0, TOLD), (B, 1, TOLD)]), False)
        self.assertIs(takes({}, [A, B], [(B, 0, TOLD), (A, 0, TOLD), (A, 0, TOLD)]), False)

    def test_what_is_not_told_has_no_such_reason(self):
        self.assertIs(takes({}, [A], [(A, 0, TOLD), (B, 0, TOLD)]), False)
        rules = numbered(("p", ("X",), (yes("q", "X"),)))
        self.assertIs(takes(rules, [A], [(A, 0, TOLD), (PA, 1, TOLD)]), False)

    def test_a_told_fact_may_have_another_reason(self):
        rules = numbered(("p", ("X",), (yes("q", "X"),)))
        for reason in (TOLD, rule(1, A)):
            self.assertIs(takes(rules, [A, PA], [(A, 0, TOLD), (PA, 1, reason)]), True)


class RuleTest(unittest.TestCase):
    RULES = numbered(("p", ("X",), (yes("q", "X"),)), ("p", ("X",), (yes("p", "Y"), yes("s", "Y", "X"))),
                     ("p", ("c",), (yes("p", "c"),)))
    STEPS = [("s", ("a", "b")), ("s", ("b", "a"))]

    def takes(self, *entries, told=(A,)):
        steps = [(step, 5, TOLD) for step in self.STEPS]
        return takes(self.RULES, list(told) + self.STEPS, steps + list(entries))

    def test_ordinary(self):
        self.assertIs(self.takes((A, 5, TOLD), (PA, 6, rule(1, A)), (PB, 7, rule(2, PA, self.STEPS[0]))), True)

    def test_used_facts_of_the_own_layer_have_a_lesser_rank(self):
        # All stand in layer 0, q and s, too.
        self.assertIs(self.takes((A, 3, TOLD), (PA, 4, rule(1, A)), (PB, 6, rule(2, PA, self.STEPS[0]))), True)
        self.assertIs(self.takes((A, 3, TOLD), (PA, 3, rule(1, A)), (PB, 6, rule(2, PA, self.STEPS[0]))), False)
        self.assertIs(self.takes((A, 3, TOLD), (PA, 2, rule(1, A)), (PB, 6, rule(2, PA, self.STEPS[0]))), False)
        self.assertIs(self.takes((A, 3, TOLD), (PA, 4, rule(1, A)), (PB, 5, rule(2, PA, self.STEPS[0]))), False)
        self.assertIs(self.takes((A, 3, TOLD), (PA, 9, rule(1, A)), (PB, 9, rule(2, PA, self.STEPS[0]))), False)
        self.assertIs(self.takes((A, 3, TOLD), (PA, 9, rule(1, A)), (PB, 7, rule(2, PA, self.STEPS[0]))), False)
        self.assertIs(self.takes((A, 3, TOLD), (PA, 9, rule(1, A)), (PB, 10, rule(2, PA, self.STEPS[0]))), True)

    def test_reasons_that_lean_on_one_another(self):
        entries = [(PA, 8, rule(2, PB, self.STEPS[1])), (PB, 9, rule(2, PA, self.STEPS[0]))]
        self.assertIs(self.takes(*entries, told=()), False)
        self.assertIs(self.takes((A, 0, TOLD), *entries), False)
        self.assertIs(self.takes((A, 0, TOLD), (PA, 1, rule(1, A)), entries[1]), True)
        self.assertIs(self.takes(told=()), True)

    def test_a_reason_that_leans_on_itself(self):
        for rank in (0, 1, 8):
            self.assertIs(self.takes((PC, rank, rule(3, PC)), told=()), False)

    def test_wrong_used_facts(self):
        one = (PB, 7, rule(2, PA, self.STEPS[0]))
        for used in ((), (B,), (PA,), (A, A), (("q", ("a", "a")),), (("r", ("a",)),), (C,), (("q", ()),)):
            self.assertIs(self.takes((A, 0, TOLD), (PA, 6, ("rule", 1, used)), one), False, used)
        for used in ((self.STEPS[0], PA), (PA, self.STEPS[1]), (PB, self.STEPS[1]), (PA,), (PA, PA)):
            self.assertIs(self.takes((A, 0, TOLD), (PA, 6, rule(1, A)), (PB, 7, ("rule", 2, used))), False, used)

    def test_used_facts_that_are_not_in_the_paper(self):
        self.assertIs(takes(numbered(("p", ("X",), (yes("q", "X"),))), [], [(PA, 1, rule(1, A))]), False)
        rules = numbered(("p", ("X",), (yes("q", "X"), no("r", "X"))))
        self.assertIs(takes(rules, [], [(PA, 1, rule(1, A))]), False)

    def test_numbers_of_other_rules_and_of_none(self):
        one = (PB, 7, rule(2, PA, self.STEPS[0]))
        for number in (0, 2, 3, 4, -1, 99):
            self.assertIs(self.takes((A, 0, TOLD), (PA, 6, rule(number, A)), one), False, number)

    def test_closed(self):
        self.assertIs(self.takes((A, 0, TOLD)), False)
        self.assertIs(self.takes((A, 0, TOLD), (PA, 1, rule(1, A))), False)

    def test_facts_that_fit_no_predicate(self):
        one, other = (PA, 6, rule(1, A)), (PB, 7, rule(2, PA, self.STEPS[0]))
        for fact in (("p", ("a", "a")), ("p", ()), ("q", ()), ("s", ("a",)), ("w", ())):
            for reason in (TOLD, rule(1, A), rule(1), rule(2, PA, self.STEPS[0]), rule(1, fact), group(1)):
                self.assertIs(self.takes((A, 0, TOLD), one, other, (fact, 8, reason)), False)

    def test_under_and_unlike(self):
        rules = numbered(("p", ("X",), (yes("q", "X"), ("under", "X", 3), ("unlike", "X", 1))))
        told = [("q", (place,)) for place in (1, 2, 3, "a")]
        paper = [(fact, 0, TOLD) for fact in told]
        right = (("p", (2,)), 1, rule(1, told[1]))
        self.assertIs(takes(rules, told, paper + [right]), True)
        self.assertIs(takes(rules, told, paper), False)
        for fact in (told[0], told[2], told[3]):
            self.assertIs(takes(rules, told, paper + [right, (("p", fact[1]), 1, rule(1, fact))]), False)


class LayersTest(unittest.TestCase):
    RULES = numbered(("p", ("X",), (yes("q", "X"), no("r", "X"))), ("r", ("X",), (yes("s", "X"),)))

    def test_used_facts_of_a_lower_layer_have_any_rank(self):
        for rank in (0, 3, 4, 90):
            self.assertIs(takes(self.RULES, [A], [(A, rank, TOLD), (PA, 3, rule(1, A))]), True)

    def test_a_used_fact_of_a_lower_and_one_of_the_own_layer(self):
        rules = {**self.RULES, 3: ("p", ("X",), (yes("p", "Y"), yes("t", "Y", "X")))}
        told = [A, ("t", ("a", "b"))]
        for ranks, answer in (((9, 9, 0, 1), True), ((9, 9, 1, 1), False), ((0, 0, 5, 4), False), ((7, 0, 6, 7), True)):
            paper = [(A, ranks[0], TOLD), (told[1], ranks[1], TOLD), (PA, ranks[2], rule(1, A)),
                     (PB, ranks[3], rule(3, PA, told[1]))]
            self.assertIs(takes(rules, told, paper), answer, ranks)

    def test_a_not_is_read_of_the_paper(self):
        shut, made = ("s", ("a",)), ("r", ("a",))
        paper = [(A, 0, TOLD), (shut, 0, TOLD)]
        self.assertIs(takes(self.RULES, [A, shut], paper + [(made, 1, rule(2, shut))]), True)
        self.assertIs(takes(self.RULES, [A, shut], paper + [(made, 1, rule(2, shut)), (PA, 1, rule(1, A))]), False)
        self.assertIs(takes(self.RULES, [A, shut], paper + [(PA, 1, rule(1, A))]), False)
        self.assertIs(takes(self.RULES, [A, made], [(A, 0, TOLD), (made, 0, TOLD)]), True)

    def test_a_rule_without_a_yes(self):
        rules = numbered(("p", ("a",), (no("q", "a"),)))
        self.assertIs(takes(rules, [], [(PA, 0, rule(1))]), True)
        self.assertIs(takes(rules, [], [(PA, 0, group(1))]), False)
        self.assertIs(takes(rules, [], [(PA, 0, rule(1, A))]), False)
        self.assertIs(takes(rules, [A], [(A, 0, TOLD)]), True)
        self.assertIs(takes(rules, [A], [(A, 0, TOLD), (PA, 0, rule(1))]), False)

    def test_what_leans_on_itself_above_a_not(self):
        rules = numbered(("p", ("X",), (yes("p", "X"), no("r", "X"))))
        for rank in (0, 1):
            self.assertIs(takes(rules, [], [(PA, rank, rule(1, PA))]), False)


class GroupTest(unittest.TestCase):
    RULES = numbered(("n", (("count",),), (yes("q", "X"),)), ("n", ("X",), (yes("m", "X"),)),
                     ("n", (("sum", "X"),), (yes("m", "X"),)))

    def takes(self, *entries):
        return takes(self.RULES, [A, B, ("m", (5,))], [(A, 3, TOLD), (B, 3, TOLD), (("m", (5,)), 3, TOLD), *entries])

    def test_ordinary(self):
        two, five = ("n", (2,)), ("n", (5,))
        self.assertIs(self.takes((two, 0, group(1)), (five, 0, rule(2, ("m", (5,))))), True)
        self.assertIs(self.takes((two, 9, group(1)), (five, 0, group(3))), True)
        self.assertIs(self.takes((two, 0, group(1))), False)
        self.assertIs(self.takes((five, 0, group(3))), False)

    def test_a_wrong_number_in_the_fact(self):
        for place in (0, 1, 3, "a"):
            self.assertIs(self.takes((("n", (2,)), 0, group(1)), (("n", (5,)), 0, group(3)),
                                     (("n", (place,)), 0, group(1))), False)

    def test_reasons_of_the_wrong_kind_of_rule(self):
        two, five = ("n", (2,)), ("n", (5,))
        for reason in (rule(1), rule(1, A, B), rule(1, A), group(2), group(3), group(4), group(0), rule(4), rule(2)):
            self.assertIs(self.takes((two, 0, reason), (five, 0, group(3))), False, reason)
        for reason in (rule(3), rule(3, ("m", (5,))), group(2), group(1), rule(2), TOLD):
            self.assertIs(self.takes((two, 0, group(1)), (five, 0, reason)), False, reason)

    def test_a_group_rule_of_another_layer(self):
        rules = numbered(("n", (("count",),), (yes("q", "X"),)), ("k", (("count",),), (yes("n", "X"),)))
        paper = [(A, 0, TOLD), (("n", (1,)), 0, group(1)), (("k", (1,)), 0, group(2))]
        self.assertIs(takes(rules, [A], paper), True)
        for first, second in ((2, 2), (1, 1), (2, 1)):
            paper = [(A, 0, TOLD), (("n", (1,)), 0, group(first)), (("k", (1,)), 0, group(second))]
            self.assertIs(takes(rules, [A], paper), False)

    def test_groups_are_read_of_the_paper_and_so_must_be_closed_beneath(self):
        rules = numbered(("n", (("count",),), (yes("q", "X"),)), ("q", ("b",), (yes("q", "a"),)))
        paper = [(A, 0, TOLD), (B, 1, rule(2, A)), (("n", (2,)), 0, group(1))]
        self.assertIs(takes(rules, [A], paper), True)
        self.assertIs(takes(rules, [A], [(A, 0, TOLD), (("n", (1,)), 0, group(1))]), False)


class BoundsTest(unittest.TestCase):
    def test_four_hundred_entries_and_one_more(self):
        told = [("q", (number,)) for number in range(401)]
        paper = [(fact, 0, TOLD) for fact in told]
        self.assertIs(takes({}, told[:400], paper[:400]), True)
        self.assertIs(takes({}, told, paper), False)
        rules = numbered(("p", ("X",), (yes("q", "X"),)))
        made = [(("p", fact[1]), 1, rule(1, fact)) for fact in told]
        self.assertIs(takes(rules, told[:200], paper[:200] + made[:200]), True)
        self.assertIs(takes(rules, told[:200] + [("r", ())], paper[:200] + made[:200] + [(("r", ()), 0, TOLD)]), False)

    def test_facts_made_up_are_found_out_without_running_through_their_bindings(self):
        wide = (yes("q", "A"), yes("q", "B"), yes("q", "C"), yes("q", "D"))
        made_up = [(("q", (number,)), 1, rule(3)) for number in range(396)]
        for head in (("p", ("A",), wide), ("p", (("count",),), wide)):
            rules = numbered(head, ("q", ("X",), (yes("r", "X"),)), ("q", (9,), (("under", 1, 2),)))
            self.assertIs(takes(rules, [], made_up), False)
            self.assertIs(takes(rules, [], [(("q", (9,)), 0, rule(3)), (("p", (9,)), 1, rule(1, *[("q", (9,))] * 4))]),
                          head[1] == ("A",))

    def test_what_only_a_lower_layer_left_open_gives_is_found_out_as_fast(self):
        wide = (yes("q", "A"), yes("q", "B"), yes("q", "C"), yes("q", "D"))
        rules = numbered(("p", ("A",), wide), ("q", ("X",), (yes("r", "X"), no("s", "X"))),
                         ("s", ("X",), (yes("r", "X"),)))
        told = [("r", (number,)) for number in range(190)]
        paper = [(fact, 0, TOLD) for fact in told] + [(("q", fact[1]), 0, rule(2, fact)) for fact in told]
        self.assertIs(takes(rules, told, paper), False)

    def test_thirty_wide_rules(self):
        nodes = [("q", (number,)) for number in range(12)]
        wide = (yes("q", "A"), yes("q", "B"), yes("q", "C"), yes("q", "D"))
        rules = {number: ("p", ("A", number), wide) for number in range(1, 31)}
        paper = worked_paper(rules, nodes)
        self.assertEqual(len(paper), 12 * 31)
        self.assertIs(takes(rules, nodes, paper), True)
        self.assertIs(takes(rules, nodes, paper[1:]), False)


def spoiled(chance, rules, paper, facts):
    """A paper with one thing changed by chance."""
    paper = list(paper)
    spot = chance.randrange(len(paper)) if paper else 0
    fact, rank, reason = paper[spot] if paper else (chance.choice(facts), 0, TOLD)
    numbers = sorted(rules) + [40]
    others = [("told",), group(chance.choice(numbers)), rule(chance.choice(numbers))]
    others.append(rule(chance.choice(numbers), *chance.choices(facts, k=chance.randint(1, 2))))
    kind = chance.choice(("rank", "reason", "drop", "add", "rank", "fact", "used"))
    if kind == "rank":
        paper[spot:spot + 1] = [(fact, max(0, rank + chance.choice((-2, -1, 1, 2))), reason)]
    elif kind == "reason":
        paper[spot:spot + 1] = [(fact, rank, chance.choice(others))]
    elif kind == "drop":
        paper[spot:spot + 1] = []
    elif kind == "add":
        paper.append((chance.choice(facts), rank, chance.choice(others)))
    elif kind == "fact":
        paper[spot:spot + 1] = [(chance.choice(facts), rank, reason)]
    elif reason[0] == "rule":
        used = tuple(chance.choice(facts) if chance.random() < 0.5 else one for one in reason[2])
        paper[spot:spot + 1] = [(fact, rank, ("rule", reason[1], used))]
    return paper


class PlainlyTest(unittest.TestCase):
    def test_against_the_document_worked_plainly(self):
        chance = random.Random(16)
        answers = {True: 0, False: 0}
        for rules, told in books(16, 200):
            meaning, paper = meaning_of(rules, told), worked_paper(rules, told)
            facts = meaning + some_facts(chance, 5) + [("a", ()), ("e", ())]
            for time in range(6):
                other = spoiled(chance, rules, paper, facts)
                answer = takes(rules, told, other)
                self.assertIs(answer, plain_takes(rules, told, other), (rules, told, other))
                if answer:
                    self.assertEqual(facts_of(other), meaning)
                answers[answer] += 1
        self.assertGreater(min(answers.values()), 200)


class UntouchedTest(unittest.TestCase):
    def test_what_is_handed_in_stays(self):
        rules, told = numbered(("p", ("X",), (yes("q", "X"),))), [B, A]
        paper = [(PB, 1, rule(1, B)), (B, 0, TOLD), (A, 0, TOLD), (PA, 1, rule(1, A))]
        handed = (dict(rules), list(told), list(paper))
        self.assertIs(takes(rules, told, paper), True)
        self.assertIs(takes(rules, told, paper[1:]), False)
        self.assertEqual((rules, told, paper), handed)


if __name__ == "__main__":
    unittest.main()
