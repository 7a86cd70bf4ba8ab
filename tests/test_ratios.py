"""Fractions and rows of them: sums and quotients of all signs, in least terms."""

import unittest
from fractions import Fraction
from itertools import product

from cordsatrest.ratios import divided, is_less, minus, plus, ratio, times, whole
from support import told

PARTS = [Fraction(top, bottom) for top in (-6, -1, 0, 1, 4) for bottom in (1, 3, 4)]


class TestRatios(unittest.TestCase):
    def test_least_terms_of_all_signs(self):
        for top, bottom in product((-6, -4, 0, 2, 9), (-6, -3, -1, 1, 2, 12)):
            self.assertEqual(ratio(top, bottom), told(Fraction(top, bottom)))

    def test_sums_products_and_quotients(self):
        for one, other in product(PARTS, PARTS):
            pair = told(one), told(other)
            self.assertEqual(plus(*pair), told(one + other))
            self.assertEqual(minus(*pair), told(one - other))
            self.assertEqual(times(*pair), told(one * other))
            self.assertIs(is_less(*pair), one < other)
            if other != 0:
                self.assertEqual(divided(*pair), told(one / other))

    def test_whole_rows(self):
        self.assertEqual(whole([(1, 2), (-2, 3), (0, 1), (5, 4)]), ([6, -8, 0, 15], 12))
        self.assertEqual(whole([]), ([], 1))


if __name__ == '__main__':
    unittest.main()
