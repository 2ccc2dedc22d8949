import itertools
import random
import unittest

from helper import no, numbered, yes
from reason.errors import Ring
from reason.layers import layers_of


def rule(head, *body):
    return (head, (), body)


def group(head, *body):
    return (head, (("count",),), body)


def steps_of(rules):
    steps = {}
    for head, terms, body in rules.values():
        for literal in body:
            if literal[0] in ("yes", "not"):
                rises = literal[0] == "not" or (len(terms) > 0 and isinstance(terms[-1], tuple))
                steps[literal[1], head] = steps.get((literal[1], head), False) or rises
    return steps


def is_ring(rules, ring):
    """Whether a thing is a ring, by the words of the document."""
    if not isinstance(ring, tuple) or ring == () or len(set(ring)) != len(ring):
        return False
    steps = steps_of(rules)
    taken = [(ring[k], ring[(k + 1) % len(ring)]) for k in range(len(ring))]
    return all(step in steps for step in taken) and any(steps[step] for step in taken)


def has_ring(rules):
    """Whether some row of predicates is a ring, all rows gone through."""
    predicates = sorted({p for step in steps_of(rules) for p in step})
    return any(is_ring(rules, row) for size in range(1, len(predicates) + 1)
               for row in itertools.permutations(predicates, size))


def fits(rules, layers):
    return all(layers[head] >= layers[body] + rises for (body, head), rises in steps_of(rules).items())


class LayersTest(unittest.TestCase):
    def test_of_no_rules(self):
        self.assertEqual(layers_of({}), {})

    def test_yes_alone_lifts_nothing(self):
        self.assertEqual(layers_of(numbered(rule("p", yes("q")), rule("q", yes("p"), yes("r")), rule("p", yes("p")))),
                         {"p": 0, "q": 0, "r": 0})

    def test_a_not_lifts_by_one(self):
        self.assertEqual(layers_of(numbered(rule("p", yes("q"), no("r")), rule("s", no("p"), no("r")))),
                         {"p": 1, "q": 0, "r": 0, "s": 2})

    def test_a_group_rule_lifts_above_yes_and_not(self):
        self.assertEqual(layers_of(numbered(group("p", yes("q")), group("s", yes("p"), no("r")),
                                            group("t", no("s"), yes("q")))),
                         {"p": 1, "q": 0, "r": 0, "s": 2, "t": 3})
        for last in (("sum", "N"), ("least", "N")):
            self.assertEqual(layers_of({1: ("p", (last,), (("yes", "q", ("N",)),))}), {"p": 1, "q": 0})

    def test_all_rules_for_a_predicate_count(self):
        self.assertEqual(layers_of(numbered(rule("p", yes("q")), rule("p", no("q")), rule("r", yes("p")))),
                         {"p": 1, "q": 0, "r": 1})

    def test_the_highest_counts(self):
        self.assertEqual(layers_of(numbered(rule("d", yes("c"), yes("a"), no("b")), rule("c", no("b")),
                                            rule("b", no("a")))),
                         {"a": 0, "b": 1, "c": 2, "d": 2})

    def test_a_body_without_predicates(self):
        self.assertEqual(layers_of(numbered(rule("p", ("under", 1, 2)), rule("q", ("unlike", 1, 2), no("p")))),
                         {"p": 0, "q": 1})

    def test_layers_go_round_a_ring_of_yes(self):
        self.assertEqual(layers_of(numbered(rule("p", yes("q")), rule("q", yes("p"), no("r")), rule("s", no("p")))),
                         {"p": 1, "q": 1, "r": 0, "s": 2})

    def test_thirty_rules_in_either_order(self):
        names = [one + other for one in "abcdef" for other in "abcdef"][:31]
        rules = [rule(head, no(body)) for body, head in zip(names, names[1:])]
        wanted = {name: k for k, name in enumerate(names)}
        self.assertEqual(layers_of(numbered(*rules)), wanted)
        self.assertEqual(layers_of(numbered(*rules[::-1])), wanted)

    def test_what_is_handed_in_stays_and_the_dict_is_new(self):
        rules = numbered(rule("p", no("q")))
        told = layers_of(rules)
        told["p"] = 9
        self.assertEqual(layers_of(rules), {"p": 1, "q": 0})
        self.assertEqual(rules, numbered(rule("p", no("q"))))


class RingTest(unittest.TestCase):
    def refused(self, *rules):
        handed = numbered(*rules)
        with self.assertRaises(Ring) as caught:
            layers_of(handed)
        self.assertTrue(is_ring(handed, caught.exception.ring), (handed, caught.exception.ring))
        self.assertEqual(handed, numbered(*rules))

    def test_through_a_not(self):
        self.refused(rule("p", no("p")))
        self.refused(rule("p", no("q")), rule("q", no("p")))
        self.refused(rule("p", yes("q")), rule("q", yes("r")), rule("r", yes("s"), no("p")))

    def test_through_a_group_rule(self):
        self.refused(group("p", yes("p")))
        self.refused(group("p", no("p")))
        self.refused(rule("p", yes("q")), group("q", yes("p")))

    def test_by_a_yes_and_a_not_of_the_same_step(self):
        self.refused(rule("p", yes("q")), rule("p", no("q")), rule("q", yes("p")))

    def test_beside_other_rules(self):
        self.refused(rule("a", no("b")), rule("c", no("a")), rule("d", yes("d")), rule("e", yes("d"), no("f")),
                     rule("f", yes("e"), yes("c")))

    def test_many_small_books(self):
        chance = random.Random(9)
        seen = {True: 0, False: 0}
        for turn in range(1500):
            rules = {}
            for number in range(chance.randint(1, 6)):
                body = [chance.choice((yes, yes, yes, no))(chance.choice("abcd")) for k in range(chance.randint(1, 2))]
                rules[number] = chance.choice((rule, rule, rule, group))(chance.choice("abcd"), *body)
            seen[self.check(rules)] += 1
        self.assertGreater(min(seen.values()), 200)

    def check(self, rules):
        if has_ring(rules):
            with self.assertRaises(Ring) as caught:
                layers_of(rules)
            self.assertTrue(is_ring(rules, caught.exception.ring), (rules, caught.exception.ring))
            return True
        layers = layers_of(rules)
        self.assertEqual(set(layers), {p for step in steps_of(rules) for p in step})
        self.assertTrue(fits(rules, layers), (rules, layers))
        # Fitting layers have a least one of each; so where none is above it, these are the least.
        names = sorted(layers)
        for row in itertools.product(range(len(names)), repeat=len(names)):
            other = dict(zip(names, row))
            if fits(rules, other):
                self.assertTrue(all(layers[name] <= other[name] for name in names), (rules, layers, other))
        return False


if __name__ == "__main__":
    unittest.main()
