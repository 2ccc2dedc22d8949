import unittest

from reason import errors

NAMES = ("NoName NoFact NoRule Unlike Unsafe Ring TooMany NoPlan Twice Missing NoText Mixed Wide Present "
         "NoMeasure NoRow").split()


class ErrorsTest(unittest.TestCase):
    def test_reason_error_is_a_value_error(self):
        self.assertEqual(errors.ReasonError.__bases__, (ValueError,))

    def test_every_refusal_stands_straight_under_it(self):
        for name in NAMES:
            self.assertEqual(getattr(errors, name).__bases__, (errors.ReasonError,), name)

    def test_refusals_are_raised_and_taken_by_name(self):
        for name in NAMES:
            refusal = getattr(errors, name)
            with self.assertRaises(errors.ReasonError) as caught:
                raise refusal(("p",))
            self.assertIs(caught.exception.__class__, refusal)

    def test_a_ring_has_its_value(self):
        self.assertEqual(errors.Ring(("p", "q")).ring, ("p", "q"))


if __name__ == "__main__":
    unittest.main()
