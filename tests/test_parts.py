import unittest
from fractions import Fraction
from math import gcd

from chanceduel.errors import NoNumber
from chanceduel.parts import fraction, minus, over, plus, times, under

GREAT = 3 ** 70 * 7 ** 20
GREATER = 2 ** 90 * 7 ** 25
TOPS = list(range(-12, 13)) + [GREAT, -GREAT, GREATER, -GREATER, 10 ** 60, -10 ** 999]
BOTTOMS = [bottom for bottom in TOPS if bottom != 0]


def plain(one):
    return (one.numerator, one.denominator)


def some_fractions():
    pairs = {plain(Fraction(top, bottom)) for top in range(-4, 5) for bottom in range(1, 7)}
    pairs |= {plain(Fraction(top, bottom)) for top in (GREAT, -GREAT, 5) for bottom in (GREATER, 10 ** 40, 1)}
    return sorted(pairs)


class Case(unittest.TestCase):
    def assert_fraction(self, told, asked):
        self.assertIs(type(told), tuple)
        self.assertEqual([type(part) for part in told], [int, int])
        self.assertGreaterEqual(told[1], 1)
        self.assertEqual(gcd(told[0], told[1]), 1)
        self.assertEqual(told, plain(asked))


class Made(Case):
    def test_named_in_the_document(self):
        self.assertEqual(fraction(6, -4), (-3, 2))

    def test_by_hand(self):
        for top, bottom, asked in (
                (1, 2, (1, 2)), (2, 4, (1, 2)), (-2, 4, (-1, 2)), (2, -4, (-1, 2)), (-2, -4, (1, 2)),
                (7, 1, (7, 1)), (7, -1, (-7, 1)), (7, 7, (1, 1)), (7, -7, (-1, 1)), (12, 4, (3, 1)),
                (0, 5, (0, 1)), (0, -5, (0, 1)), (0, 1, (0, 1)), (0, -1, (0, 1)),
                (2 * 10 ** 50, -6 * 10 ** 49, (-10, 3)),
                (10 ** 40 + 1, 10 ** 40, (10 ** 40 + 1, 10 ** 40))):
            with self.subTest(top=top, bottom=bottom):
                self.assertEqual(fraction(top, bottom), asked)

    def test_lowest_terms_everywhere(self):
        for top in TOPS:
            for bottom in BOTTOMS:
                with self.subTest(top=top, bottom=bottom):
                    self.assert_fraction(fraction(top, bottom), Fraction(top, bottom))

    def test_bottom_of_nought(self):
        for top in TOPS + [10 ** 5000]:
            with self.assertRaises(NoNumber):
                fraction(top, 0)


class Reckoned(Case):
    def test_by_hand(self):
        self.assertEqual(plus((1, 6), (1, 3)), (1, 2))
        self.assertEqual(plus((1, 2), (-1, 2)), (0, 1))
        self.assertEqual(minus((1, 2), (1, 3)), (1, 6))
        self.assertEqual(minus((1, 3), (1, 2)), (-1, 6))
        self.assertEqual(times((2, 3), (-3, 4)), (-1, 2))
        self.assertEqual(over((1, 2), (-3, 4)), (-2, 3))
        self.assertEqual(over((-3, 4), (1, 2)), (-3, 2))
        self.assertEqual(over((0, 1), (-3, 4)), (0, 1))

    def test_all_against_exact_reckoning(self):
        for one in some_fractions():
            for other in some_fractions():
                with self.subTest(one=one, other=other):
                    self.assert_fraction(plus(one, other), Fraction(*one) + Fraction(*other))
                    self.assert_fraction(minus(one, other), Fraction(*one) - Fraction(*other))
                    self.assert_fraction(times(one, other), Fraction(*one) * Fraction(*other))
                    if other != (0, 1):
                        self.assert_fraction(over(one, other), Fraction(*one) / Fraction(*other))

    def test_quotient_by_nought(self):
        for one in some_fractions():
            with self.assertRaises(NoNumber):
                over(one, (0, 1))


class Compared(unittest.TestCase):
    def test_by_hand(self):
        for less, more in (
                ((1, 3), (1, 2)), ((-1, 2), (-1, 3)), ((-1, 2), (1, 3)), ((0, 1), (1, 10 ** 50)),
                ((-1, 10 ** 50), (0, 1)), ((10 ** 50, 10 ** 50 + 1), (10 ** 50 + 1, 10 ** 50 + 2))):
            with self.subTest(less=less, more=more):
                self.assertIs(under(less, more), True)
                self.assertIs(under(more, less), False)

    def test_the_same(self):
        for one in some_fractions():
            self.assertIs(under(one, (one[0], one[1])), False)

    def test_all_against_exact_reckoning(self):
        for one in some_fractions():
            for other in some_fractions():
                with self.subTest(one=one, other=other):
                    self.assertIs(under(one, other), Fraction(*one) < Fraction(*other))


if __name__ == "__main__":
    unittest.main()
