"""[12], its first part: FRACTIONS."""

import unittest
from fractions import Fraction

from unwaited.forms import is_fraction
from unwaited.fractions import added, compared, fraction_text, lessened, reduced, times

GREAT = 10 ** 39 + 7


class Fractions(unittest.TestCase):
    def setUp(self):
        self.all = [reduced(n, d) for n in range(-7, 8) for d in (1, 2, 3, 4, 6, 7)]
        self.all += [reduced(GREAT, 3), reduced(-GREAT, GREAT + 1), (0, 1)]

    def check(self, fraction, meant):
        self.assertTrue(is_fraction(fraction), fraction)
        self.assertEqual(fraction, (meant.numerator, meant.denominator))

    def test_reduced(self):
        for n in (*range(-12, 13), GREAT, -GREAT):
            for d in (*range(-12, 0), *range(1, 13), GREAT, -GREAT):
                self.check(reduced(n, d), Fraction(n, d))

    def test_reduced_edges(self):
        self.assertEqual(reduced(0, -5), (0, 1))
        self.assertEqual(reduced(0, 5), (0, 1))
        self.assertEqual(reduced(6, -4), (-3, 2))
        self.assertEqual(reduced(-6, -4), (3, 2))
        self.assertEqual(reduced(-8, 4), (-2, 1))

    def test_sums_and_products(self):
        for one in self.all:
            for other in self.all:
                left, right = Fraction(*one), Fraction(*other)
                self.check(added(one, other), left + right)
                self.check(lessened(one, other), left - right)
                self.check(times(one, other), left * right)

    def test_compared(self):
        for one in self.all:
            for other in self.all:
                left, right = Fraction(*one), Fraction(*other)
                told = compared(one, other)
                self.assertIs(type(told), int)
                self.assertEqual(told, (left > right) - (left < right))

    def test_text(self):
        for one in self.all:
            meant = str(one[0]) if one[1] == 1 else str(one[0]) + "/" + str(one[1])
            self.assertEqual(fraction_text(one), meant)
        self.assertEqual(fraction_text((-3, 2)), "-3/2")
        self.assertEqual(fraction_text((0, 1)), "0")
        self.assertEqual(fraction_text((-4, 1)), "-4")


if __name__ == "__main__":
    unittest.main()
