import random
import string
import unittest

from helper import (bound_in, edge, lively_rule, no, numbered, parts_in_order, path, PATHS, plain_meaning, put, used_in,
                    VARIABLES, WIDTHS, yes)
from reason.books import alike_of, parting_of
from reason.errors import Mixed, Ring, TooMany, Wide
from reason.layers import layers_of
from reason.meaning import meaning_of
from reason.terms import in_order

DOUBLED = (PATHS[0], ("path", ("X", "Z"), (yes("path", "X", "Y"), yes("path", "Y", "Z"))))
# Five facts of d make six hundred and twenty-five of t, more than a meaning may have.
FIVE = [("d", (number,), (yes("flood"),)) for number in range(5)]
FLOOD = (*FIVE, ("t", ("A", "B", "C", "D"), (yes("d", "A"), yes("d", "B"), yes("d", "C"), yes("d", "D"))))


def bare(*names):
    return tuple((name, ()) for name in names)


class PartingTest(unittest.TestCase):
    def test_the_same_book(self):
        given = [edge(1, 2), edge(2, 3), edge(3, 1)]
        self.assertIsNone(parting_of(numbered(*PATHS), numbered(*PATHS), given, "path"))
        self.assertIsNone(parting_of(numbered(*PATHS), {7: PATHS[1], 3: PATHS[0]}, given, "path"))
        self.assertIsNone(parting_of({}, {}, [], "p"))

    def test_other_rules_with_the_same_facts(self):
        given = [edge(1, 2), edge(2, 3), edge(3, 1), edge(3, 4)]
        self.assertIsNone(parting_of(numbered(*PATHS), numbered(*DOUBLED), given, "path"))

    def test_the_least_part(self):
        given = [edge(2, 3), edge(1, 2), edge(3, 4), path(5, 6)]
        self.assertEqual(parting_of(numbered(*PATHS), numbered(PATHS[0]), given, "path"), (edge(1, 2), edge(2, 3)))
        self.assertEqual(parting_of(numbered(PATHS[0]), numbered(*PATHS), given, "path"), (edge(1, 2), edge(2, 3)))
        self.assertEqual(parting_of(numbered(*PATHS), {}, given, "path"), (edge(1, 2),))

    def test_the_smaller_parts_first_then_in_order(self):
        rules = numbered(("p", (), (yes("a"), yes("z"))), ("p", (), (yes("b"), yes("c"))), ("p", (), (yes("y"),)))
        given = list(bare("z", "y", "c", "b", "a"))
        self.assertEqual(parting_of(rules, {}, given, "p"), bare("y"))
        self.assertEqual(parting_of(rules, {}, list(bare("z", "c", "b", "a")), "p"), bare("a", "z"))
        self.assertEqual(parting_of(rules, {}, list(bare("z", "c", "b")), "p"), bare("b", "c"))
        rules = numbered(("p", (), (yes("q", 1), yes("q", 2), yes("q", 3))), ("p", (), (yes("q", "a"), yes("q", 10))))
        self.assertEqual(parting_of(rules, {}, [("q", (place,)) for place in ("a", 3, 10, 2, 1)], "p"),
                         (("q", (10,)), ("q", ("a",))))

    def test_the_empty_part(self):
        given = list(bare("a"))
        self.assertEqual(parting_of(numbered(("p", (), (no("a"),))), {}, given, "p"), ())
        self.assertEqual(parting_of(numbered(("p", (1,), (("under", 1, 2),))), {}, [], "p"), ())
        other = numbered(("p", (), (no("b"),)))
        self.assertEqual(parting_of(numbered(("p", (), (no("a"),))), other, given, "p"), bare("a"))

    def test_only_the_predicate_is_looked_at(self):
        given = [edge(1, 2), edge(2, 3)]
        self.assertIsNone(parting_of(numbered(*PATHS), {}, given, "edge"))
        self.assertIsNone(parting_of(numbered(*PATHS), {}, given, "nowhere"))
        self.assertIsNotNone(parting_of(numbered(*PATHS), {}, given, "path"))

    def test_given_facts_of_the_predicate(self):
        rules = numbered(("p", (1,), (yes("p", 2),)))
        self.assertEqual(parting_of(rules, {}, [("p", (2,)), ("p", (1,))], "p"), (("p", (2,)),))
        self.assertIsNone(parting_of(rules, {}, [("p", (1,)), ("p", (3,))], "p"))

    def test_groups(self):
        sums = numbered(("p", (("sum", "X"),), (yes("q", "X"),)))
        least = numbered(("p", (("least", "X"),), (yes("q", "X"),)))
        given = [("q", (number,)) for number in (4, 0, 9)]
        self.assertEqual(parting_of(sums, least, given, "p"), (("q", (0,)), ("q", (4,))))
        self.assertIsNone(parting_of(sums, least, given[:1], "p"))

    def test_eight_given_facts_and_nine(self):
        rules = numbered(("n", (("count",),), (yes("q", "X"),)), ("p", (), (yes("n", 8),)))
        given = [("q", (number,)) for number in range(8)]
        self.assertEqual(parting_of(rules, {}, given, "p"), tuple(given))
        self.assertIsNone(parting_of(rules, rules, given, "p"))
        self.assertRaises(Wide, parting_of, rules, {}, given + [("q", (8,))], "p")
        self.assertRaises(Wide, parting_of, {}, {}, given + [("q", (8,))], "nowhere")


class PartingRefusedTest(unittest.TestCase):
    def test_a_refusal_ahead_of_the_parting_and_one_behind(self):
        rules = numbered(*FLOOD, ("p", (), (yes("e"),)), ("r", (), (yes("g"),)))
        for books in ((rules, numbered(*FLOOD)), (numbered(*FLOOD), rules)):
            self.assertEqual(parting_of(*books, list(bare("flood", "e")), "p"), bare("e"))
            self.assertRaises(TooMany, parting_of, *books, list(bare("flood", "g")), "r")
            self.assertRaises(TooMany, parting_of, *books, list(bare("flood", "e")), "nowhere")

    def test_either_book(self):
        for books in ((numbered(*FLOOD), {}), ({}, numbered(*FLOOD))):
            self.assertRaises(TooMany, parting_of, *books, list(bare("flood")), "p")
            # By the part that is refused the books differ in d, too: the refusal is due all the same.
            self.assertRaises(TooMany, parting_of, *books, list(bare("flood")), "d")

    def test_the_empty_part_and_a_part_that_is_refused_no_more(self):
        rules = {**numbered(*FLOOD), 20: ("flood", (), (no("a"),))}
        self.assertRaises(TooMany, parting_of, rules, {}, list(bare("a")), "p")
        both = numbered(*FLOOD[:5], (*FLOOD[5][:2], (*FLOOD[5][2], no("a"))), ("p", (), (yes("a"), yes("flood"))))
        self.assertRaises(TooMany, parting_of, both, {}, list(bare("a", "flood")), "p")

    def test_wide_ahead_of_too_many(self):
        given = list(bare("flood")) + [("q", (number,)) for number in range(8)]
        self.assertRaises(Wide, parting_of, numbered(*FLOOD), {}, given, "p")
        self.assertRaises(TooMany, parting_of, numbered(*FLOOD), {}, given[:8], "p")


class PartingPlainlyTest(unittest.TestCase):
    def test_against_the_document_worked_plainly(self):
        chance = random.Random(35)
        sizes = {}
        for turn in range(300):
            book = {number: lively_rule(chance) for number in range(1, 5)}
            other = {number: rule for number, rule in book.items() if chance.random() < 0.7}
            if chance.random() < 0.5:
                other[9] = lively_rule(chance)
            try:
                layers = layers_of(book), layers_of(other)
            except Ring:
                continue
            given = list({(name, tuple(chance.choices((0, 1, "k"), k=WIDTHS[name]))): True
                          for name in chance.choices("abcdef", k=5)})
            predicate = chance.choice([rule[0] for rule in (*book.values(), *other.values())])
            expected = None
            for part in parts_in_order(given):
                one = [fact for fact in plain_meaning(book, part, layers[0]) if fact[0] == predicate]
                two = [fact for fact in plain_meaning(other, part, layers[1]) if fact[0] == predicate]
                if one != two:
                    expected = part
                    break
            self.assertEqual(parting_of(book, other, given, predicate), expected, (book, other, given, predicate))
            size = None if expected is None else len(expected)
            sizes[size] = sizes.get(size, 0) + 1
        self.assertGreater(min(sizes[None], sizes[1], sizes[2]), 4, sizes)


class AlikeTest(unittest.TestCase):
    def test_a_book_against_itself_and_against_the_empty_one(self):
        self.assertIsNone(alike_of({}, {}))
        self.assertIsNone(alike_of(numbered(*PATHS), numbered(*PATHS)))
        self.assertIsNone(alike_of(numbered(*PATHS), {8: PATHS[1], 2: PATHS[0]}))
        self.assertEqual(alike_of(numbered(*PATHS), {}), (0, 1, (edge("a", "b"),)))
        self.assertEqual(alike_of({}, numbered(*PATHS)), (1, 1, (edge("a", "b"),)))

    def test_rules_that_give_nothing_new_are_alike_the_empty_book(self):
        rules = numbered(("p", ("X",), (yes("p", "X"),)), ("p", ("X",), (yes("q", "Y"), yes("p", "X"))))
        self.assertIsNone(alike_of(rules, {}))
        self.assertIsNone(alike_of({}, rules))
        self.assertEqual(alike_of({}, numbered(("p", (1,), (yes("p", "X"),)))), (1, 1, (("p", ("a",)),)))

    def test_a_rule_of_side_nought_and_one_of_side_one(self):
        self.assertEqual(alike_of(numbered(*PATHS), numbered(*DOUBLED)), (1, 2, (path("a", "b"), path("b", "c"))))
        self.assertEqual(alike_of(numbered(*DOUBLED), numbered(*PATHS)), (0, 2, (path("a", "b"), path("b", "c"))))
        self.assertEqual(alike_of({1: PATHS[0]}, numbered(*PATHS)), (1, 2, (edge("a", "b"), path("b", "c"))))

    def test_a_rule_that_follows_from_others(self):
        body = (yes("edge", "A", "B"), yes("path", "B", "C"), yes("edge", "C", "D"))
        more = numbered(*DOUBLED, ("path", ("A", "D"), body))
        self.assertIsNone(alike_of(numbered(*DOUBLED), more))
        self.assertIsNone(alike_of(more, numbered(*DOUBLED)))

    def test_the_first_rule_by_numbers(self):
        rules = {number: ("p", ("X",), (yes(name, "X"),)) for number, name in ((9, "q"), (4, "r"), (2, "p"))}
        self.assertEqual(alike_of(rules, {}), (0, 4, (("r", ("a",)),)))
        self.assertEqual(alike_of({}, rules), (1, 4, (("r", ("a",)),)))

    def test_side_nought_ahead_of_side_one(self):
        one, other = {7: ("p", ("X",), (yes("q", "X"),))}, {1: ("p", ("X",), (yes("r", "X"),))}
        self.assertEqual(alike_of(one, other), (0, 7, (("q", ("a",)),)))
        self.assertEqual(alike_of(other, one), (0, 1, (("r", ("a",)),)))

    def test_variables_sorted_have_the_names_in_order(self):
        rule = ("p", ("Zz", "B", "A9", "A"), (yes("q", "Zz", "B", "A9", "A"),))
        self.assertEqual(alike_of({1: rule}, {}), (0, 1, (("q", ("d", "c", "b", "a")),)))

    def test_facts_sorted_each_once(self):
        rule = ("p", (), (yes("s", "Y"), yes("q", "X"), yes("s", "X"), yes("q", "X")))
        self.assertEqual(alike_of({1: rule}, {}), (0, 1, (("q", ("a",)), ("s", ("a",)), ("s", ("b",)))))
        self.assertEqual(alike_of({1: ("p", (), (yes("s", "b"), yes("s", "Y"), yes("s", 4)))}, {}),
                         (0, 1, (("s", (4,)), ("s", ("a",)), ("s", ("b",)))))

    def test_rules_without_variables(self):
        self.assertEqual(alike_of({1: ("p", (), (yes("q"),))}, {}), (0, 1, (("q", ()),)))
        self.assertEqual(alike_of({1: ("p", (1,), (yes("q", 2),))}, {}), (0, 1, (("q", (2,)),)))


class NamesTest(unittest.TestCase):
    def test_names_that_stand_in_a_book_as_constants(self):
        rule = ("p", ("X", "a"), (yes("q", "X", "Y", "c"),))
        self.assertEqual(alike_of({1: rule}, {}), (0, 1, (("q", ("b", "d", "c")),)))
        other = {1: ("w", ("b",), (yes("w", "X"),)), 2: ("w", ("X",), (yes("w", "X"), yes("w", "d")))}
        self.assertEqual(alike_of({1: rule}, other), (0, 1, (("q", ("e", "f", "c")),)))
        self.assertEqual(alike_of(other, {5: rule}), (0, 1, (("w", ("e",)),)))

    def test_predicates_and_variables_take_no_name(self):
        rule = ("a", ("B",), (yes("b", "B"), yes("c", "A")))
        self.assertEqual(alike_of({1: rule}, {}), (0, 1, (("b", ("b",)), ("c", ("a",)))))

    def test_numbers_and_longer_names_take_none(self):
        rule = ("p", ("X",), (yes("q", "X", 1, "aa", "abc"),))
        self.assertEqual(alike_of({1: rule}, {}), (0, 1, (("q", ("a", 1, "aa", "abc")),)))

    def test_more_than_there_are_letters(self):
        letters = string.ascii_lowercase
        taken = [("w", tuple(letters[spot:spot + 4]), (yes("w", *letters[spot:spot + 4]),)) for spot in range(0, 24, 4)]
        rule = ("p", ("A", "B", "C", "D"), (yes("q", "A", "B", "C", "D"),))
        self.assertEqual(alike_of(numbered(*taken[:3], rule), numbered(*taken[3:])),
                         (0, 4, (("q", ("y", "z", "aa", "ab")),)))
        rest = ("w", ("y", "z", "aa", "ac"), (yes("w", "y", "z", "aa", "ac"),))
        self.assertEqual(alike_of(numbered(*taken, rule), {1: rest}), (0, 7, (("q", ("ab", "ad", "ae", "af")),)))

    def test_if_is_no_name(self):
        pairs = list(string.ascii_lowercase) + [one + other for one in "abcdefgh" for other in string.ascii_lowercase]
        pairs += ["ia", "ib", "ic", "id"]
        pairs += ["ie"] * (-len(pairs) % 4 + 4)
        book = {number: ("w", tuple(pairs[4 * number:4 * number + 4]), (yes("w", *pairs[4 * number:4 * number + 4]),))
                for number in range(len(pairs) // 4)}
        book[1000] = ("p", ("X", "Y"), (yes("q", "X", "Y"),))
        self.assertEqual(alike_of(book, {}), (0, 1000, (("q", ("ig", "ih")),)))


class AlikeRefusedTest(unittest.TestCase):
    def test_mixed(self):
        for literal in (no("r", "X"), ("under", "X", 1), ("unlike", "X", 1), ("under", 1, 2)):
            book = numbered(*PATHS, ("p", ("X",), (yes("q", "X"), literal)))
            for books in ((book, book), (book, {}), ({}, book), (numbered(*PATHS), book)):
                self.assertRaises(Mixed, alike_of, *books)
        for grouping in (("count",), ("sum", "X"), ("least", "X")):
            book = {1: ("p", (grouping,), (yes("q", "X"),))}
            for books in ((book, book), (book, {}), ({}, book), (numbered(*PATHS), book)):
                self.assertRaises(Mixed, alike_of, *books)

    def test_mixed_ahead_of_too_many(self):
        rules = numbered(("p", (), (yes("flood"),)))
        self.assertRaises(TooMany, alike_of, rules, numbered(*FLOOD))
        self.assertRaises(Mixed, alike_of, rules, numbered(*FLOOD, ("w", (), (no("v"),))))
        self.assertRaises(Mixed, alike_of, {**rules, 9: ("w", (), (no("v"),))}, numbered(*FLOOD))

    def test_too_many_ahead_of_the_telling_and_behind(self):
        other = numbered(*FLOOD)
        first = {1: ("p", (), (yes("flood"),)), 2: ("p", (), (yes("q"),))}
        later = {2: ("p", (), (yes("flood"),)), 1: ("p", (), (yes("q"),))}
        self.assertRaises(TooMany, alike_of, first, other)
        self.assertEqual(alike_of(later, other), (0, 1, (("q", ()),)))
        # Side 0 is gone through first: what is told there comes ahead of what is refused on side 1.
        self.assertEqual(alike_of(other, later), (0, 1, (("flood", ()),)))

    def test_too_many_on_side_one(self):
        one = numbered(*FLOOD)
        other = {**numbered(*FLOOD), 30: ("p", (), (yes("flood"),))}
        self.assertRaises(TooMany, alike_of, one, other)

    def test_a_head_in_a_refused_meaning_is_refused_too(self):
        self.assertRaises(TooMany, alike_of, {1: ("flood", (), (yes("flood"),))}, numbered(*FLOOD))


class AlikePlainlyTest(unittest.TestCase):
    def some_bare_rule(self, chance):
        body = []
        for turn in range(chance.choice((1, 1, 2, 2, 3))):
            predicate = chance.choice("abcd")
            body.append(yes(predicate, *[chance.choice(VARIABLES * 3 + ("a",)) for place in range(WIDTHS[predicate])]))
        predicate = chance.choice("abcd")
        bound = bound_in(body) or ["b"]
        return (predicate, tuple(chance.choices(bound * 5 + ["a"], k=WIDTHS[predicate])), tuple(body))

    def expected(self, book, other):
        constants = {term for rule in (*book.values(), *other.values())
                     for row in (rule[1], *[literal[2] for literal in rule[2]]) for term in row}
        names = [name for name in string.ascii_lowercase if name not in constants]
        for side, own, against in ((0, book, other), (1, other, book)):
            for number in sorted(own):
                predicate, terms, body = own[number]
                binding = dict(zip(sorted(set(bound_in(body))), names))
                facts = in_order(set(used_in(body, binding)))
                head = (predicate, tuple(put(term, binding) for term in terms))
                if head not in plain_meaning(against, facts, layers_of(against)):
                    return (side, number, tuple(facts))
        return None

    def test_against_the_document_worked_plainly(self):
        chance = random.Random(36)
        seen = {}
        for turn in range(200):
            book = {number: self.some_bare_rule(chance) for number in chance.sample(range(1, 20), 4)}
            other = {number + 3: rule for number, rule in book.items() if chance.random() < 0.8}
            if chance.random() < 0.6:
                other[1] = self.some_bare_rule(chance)
            said = alike_of(book, other)
            self.assertEqual(said, self.expected(book, other), (book, other))
            key = said if said is None else said[0]
            seen[key] = seen.get(key, 0) + 1
            if said is None:
                for time in range(5):
                    told = list({(name, tuple(chance.choices((0, "a", "k"), k=WIDTHS[name]))): True
                                 for name in chance.choices("abcd", k=6)})
                    self.assertEqual(meaning_of(book, told), meaning_of(other, told))
            else:
                own, against = (book, other) if said[0] == 0 else (other, book)
                lost = set(meaning_of(own, list(said[2]))) - set(meaning_of(against, list(said[2])))
                self.assertNotEqual(lost, set())
        self.assertGreater(min(seen[None], seen[0], seen[1]), 10, seen)


class UntouchedTest(unittest.TestCase):
    def test_what_is_handed_in_stays(self):
        rules, other, given = numbered(*PATHS), numbered(*DOUBLED), [edge(2, 3), edge(1, 2)]
        parting_of(rules, other, given, "path")
        alike_of(rules, other)
        self.assertEqual((rules, other, given), (numbered(*PATHS), numbered(*DOUBLED), [edge(2, 3), edge(1, 2)]))
        self.assertEqual(alike_of(rules, other), alike_of(rules, other))


class BoundsTest(unittest.TestCase):
    def test_eight_facts_of_which_much_follows(self):
        wide = numbered(PATHS[0], ("path", ("Y", "X"), (yes("path", "X", "Y"),)),
                        ("path", ("A", "D"), (yes("path", "A", "B"), yes("path", "B", "C"), yes("path", "C", "D"))))
        given = [edge(number, number + 1) for number in range(8)]
        longer = {**wide, 7: ("path", (0, 0), (yes("path", 0, 8),))}
        self.assertIsNone(parting_of(wide, {**wide, 7: ("path", (0, 0), (yes("edge", 0, 8),))}, given, "path"))
        self.assertIsNone(parting_of(wide, longer, given, "path"))
        odd = {**wide, 7: ("path", (0, 0), (yes("path", 0, 7),))}
        self.assertEqual(parting_of(wide, odd, given, "path"), tuple(given[:7]))


if __name__ == "__main__":
    unittest.main()
