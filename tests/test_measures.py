import math
import unittest

from helper import Agrees, JOINED, MET
from reason.errors import NoMeasure
from reason.measures import Bits, Chain, Measure, Shares, measure_of

THIRTY = 10 ** 30 - 1
KINDS = ("bits", "chain", "shares")


def values(kind, top):
    """All values of a measure with a small top, by the document's words."""
    if kind == "bits":
        return [number for number in range(top + 1) if all(top >> bit & 1 for bit in range(9) if number >> bit & 1)]
    if kind == "chain":
        return list(range(top + 1))
    return [number for number in range(1, top + 1) if top % number == 0]


class MeasureOfTest(unittest.TestCase):
    def test_each_kind(self):
        for kind, form, nought in (("bits", Bits, 0), ("chain", Chain, 0), ("shares", Shares, 1)):
            for top in (1, 2, 12, THIRTY):
                for measure in (measure_of((kind, top)), form(top)):
                    self.assertIsInstance(measure, form)
                    self.assertIsInstance(measure, Measure)
                    self.assertEqual((measure.nought, measure.top), (nought, top))

    def test_what_is_none(self):
        wrong = [None, True, 3, "bits", (), ("bits",), ("bits", 3, 3), ["bits", 3], {"bits": 3}, (["bits"], 3),
                 (3, "bits"), (None, 3), (("bits",), 3), ("bit", 3), ("Bits", 3), ("", 3), ("bits ", 3), ("sum", 3),
                 (b"bits", 3), Agrees(), (Agrees(), 3), ("bits", Agrees()), frozenset(("bits", 3)), Bits, Bits(3),
                 "chain 3", (("bits", 3),), range(2)]
        tops = [0, -1, -THIRTY, True, False, None, "3", 3.0, (3,), [3], {}, ("bits", 3)]
        for thing in wrong + [(kind, top) for kind in KINDS for top in tops]:
            self.assertRaises(NoMeasure, measure_of, thing)


class HasTest(unittest.TestCase):
    def test_all_values_of_small_tops(self):
        for kind in KINDS:
            for top in (1, 2, 5, 6, 8, 10, 12, 15, 60, 63):
                measure = measure_of((kind, top))
                said = [number for number in range(-5, 200) if measure.has(number)]
                self.assertEqual(said, values(kind, top))
                for number in range(-5, 200):
                    self.assertIs(measure.has(number), number in said)

    def test_nought_and_top(self):
        for kind in KINDS:
            for top in (1, 7, 360360, THIRTY, 2 ** 99):
                measure = measure_of((kind, top))
                self.assertIs(measure.has(measure.nought), True)
                self.assertIs(measure.has(top), True)
                self.assertIs(measure.has(top + 1), False)
                self.assertIs(measure.has(measure.nought - 1), False)
                self.assertIs(measure.has(-top), False)

    def test_tops_of_thirty_figures(self):
        self.assertIs(measure_of(("bits", 2 ** 99)).has(2 ** 98), False)
        self.assertIs(measure_of(("bits", 2 ** 99 - 1)).has(2 ** 98 + 5), True)
        self.assertIs(measure_of(("chain", THIRTY)).has(THIRTY - 1), True)
        self.assertIs(measure_of(("shares", 10 ** 29)).has(5 ** 29 * 8), True)
        self.assertIs(measure_of(("shares", 10 ** 29)).has(5 ** 30), False)
        self.assertIs(measure_of(("shares", 10 ** 29)).has(3), False)

    def test_of_anything(self):
        things = [None, True, False, "1", 1.0, 0.0, [], [1], (), (1,), {}, {1}, b"1", Agrees(), Measure, object()]
        for kind in KINDS:
            for thing in things:
                self.assertIs(measure_of((kind, 3)).has(thing), False, thing)


class JoinedAndMetTest(unittest.TestCase):
    def test_all_pairs_of_small_tops(self):
        for kind in KINDS:
            for top in (1, 2, 10, 12, 45, 60, 210):
                measure = measure_of((kind, top))
                for one in values(kind, top):
                    for other in values(kind, top):
                        joined, met = measure.either(one, other), measure.both(one, other)
                        self.assertEqual(joined, JOINED[kind](one, other))
                        self.assertEqual(met, MET[kind](one, other))
                        self.assertTrue(measure.has(joined) and measure.has(met))

    def test_nought_and_top(self):
        for kind in KINDS:
            measure = measure_of((kind, 60))
            for value in values(kind, 60):
                self.assertEqual(measure.either(value, measure.nought), value)
                self.assertEqual(measure.both(value, measure.top), value)
                self.assertEqual(measure.either(measure.top, value), measure.top)
                self.assertEqual(measure.both(measure.nought, value), measure.nought)

    def test_by_hand(self):
        bits, chain, shares = Bits(13), Chain(13), Shares(60)
        self.assertEqual((bits.either(9, 5), bits.both(9, 5)), (13, 1))
        self.assertEqual((chain.either(9, 5), chain.both(9, 5)), (9, 5))
        self.assertEqual((shares.either(4, 6), shares.both(4, 6)), (12, 2))
        self.assertEqual((shares.either(1, 15), shares.both(4, 15)), (15, 1))

    def test_of_thirty_figures(self):
        one, other = 2 ** 50 * 3 ** 20, 2 ** 40 * 3 ** 25
        shares = Shares(2 ** 50 * 3 ** 25)
        self.assertEqual((shares.either(one, other), shares.both(one, other)), (2 ** 50 * 3 ** 25, 2 ** 40 * 3 ** 20))
        self.assertEqual(shares.both(THIRTY, THIRTY - 2), math.gcd(THIRTY, THIRTY - 2))
        bits = Bits(2 ** 99 - 1)
        self.assertEqual((bits.either(2 ** 98, 2 ** 97), bits.both(2 ** 98 + 7, 2 ** 97 + 6)), (2 ** 98 + 2 ** 97, 6))


if __name__ == "__main__":
    unittest.main()
