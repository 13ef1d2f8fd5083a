"""Divisors, multiples and fractions [5], with what is no whole number [2]."""

import math
import unittest
from fractions import Fraction

from mixbench.errors import NoNumber
from mixbench.ratios import divisor, fraction, is_under, multiple, plus, size_of, times

LONG = 7 ** 1100 * 3 ** 1200
OTHER_LONG = 7 ** 900 * 2 ** 3000
NUMBERS = list(range(-13, 14)) + [30, -30, 97, -360, 10 ** 12, -(10 ** 12) + 1, LONG, -OTHER_LONG]
NO_NUMBERS = [None, True, False, "1", "", [1], [], (1,), (1, 2), {}, {1: 1}, 1.0]

SMALL = [Fraction(top, bottom) for top in range(-7, 8) for bottom in range(1, 8)]
LARGE = [Fraction(10 ** 40 + 1, 3), Fraction(-5, 10 ** 50), Fraction(LONG, OTHER_LONG), Fraction(-OTHER_LONG, LONG)]
FRACTIONS = sorted(set(SMALL + LARGE))


def pair(value):
    return (value.numerator, value.denominator)


class Divisors(unittest.TestCase):
    def test_divisor_of_two_noughts_is_nought(self):
        self.assertEqual(divisor(0, 0), 0)

    def test_multiple_is_nought_beside_nought(self):
        for number in NUMBERS:
            self.assertEqual(multiple(0, number), 0)
            self.assertEqual(multiple(number, 0), 0)

    def test_divisor_beside_nought_is_the_size(self):
        for number in NUMBERS:
            self.assertEqual(divisor(0, number), abs(number))
            self.assertEqual(divisor(number, 0), abs(number))

    def test_written_out(self):
        self.assertEqual(divisor(12, 18), 6)
        self.assertEqual(divisor(-12, 18), 6)
        self.assertEqual(divisor(12, -18), 6)
        self.assertEqual(divisor(-18, -12), 6)
        self.assertEqual(multiple(4, 6), 12)
        self.assertEqual(multiple(-4, 6), 12)
        self.assertEqual(multiple(6, -4), 12)
        self.assertEqual(multiple(-6, -4), 12)

    def test_all_pairs_of_either_sign_and_order(self):
        for one in NUMBERS:
            for other in NUMBERS:
                self.assertEqual(divisor(one, other), math.gcd(one, other))
                self.assertEqual(multiple(one, other), math.lcm(one, other))

    def test_numbers_of_two_thousand_figures(self):
        one = 10 ** 1999 + 1
        other = 3 * one // 11 if one % 11 == 0 else 3 * one - 1
        self.assertEqual(divisor(one, other), math.gcd(one, other))
        self.assertEqual(multiple(-other, one), math.lcm(one, other))


class Made(unittest.TestCase):
    def test_written_out(self):
        self.assertEqual(fraction(6, 4), (3, 2))
        self.assertEqual(fraction(-6, 4), (-3, 2))
        self.assertEqual(fraction(6, -4), (-3, 2))
        self.assertEqual(fraction(-6, -4), (3, 2))
        self.assertEqual(fraction(8, 4), (2, 1))
        self.assertEqual(fraction(1, -1), (-1, 1))

    def test_nought_has_the_bottom_one(self):
        for bottom in (1, -1, 7, -7, LONG):
            self.assertEqual(fraction(0, bottom), (0, 1))

    def test_lowest_terms_whatever_the_signs(self):
        for top in NUMBERS:
            for bottom in NUMBERS:
                if bottom != 0:
                    self.assertEqual(fraction(top, bottom), pair(Fraction(top, bottom)))

    def test_is_a_tuple_of_whole_numbers(self):
        for one in (fraction(0, 5), fraction(5, -10), fraction(3, 3)):
            self.assertIs(type(one), tuple)
            self.assertEqual([type(part) for part in one], [int, int])

    def test_bottom_nought_is_refused(self):
        for top in NUMBERS:
            with self.assertRaises(NoNumber):
                fraction(top, 0)

    def test_what_is_no_whole_number_is_refused_at_either_place(self):
        for wrong in NO_NUMBERS:
            for other in (1, 0, -3):
                with self.subTest(wrong=wrong, other=other):
                    with self.assertRaises(NoNumber):
                        fraction(wrong, other)
                    with self.assertRaises(NoNumber):
                        fraction(other, wrong)
            with self.assertRaises(NoNumber):
                fraction(wrong, wrong)

    def test_what_is_refused_stays_as_it_was(self):
        wrong = [1]
        with self.assertRaises(NoNumber):
            fraction(wrong, 1)
        self.assertEqual(wrong, [1])


class Reckoned(unittest.TestCase):
    def check(self, told, awaited):
        self.assertEqual(told, pair(awaited))
        self.assertIs(type(told), tuple)

    def test_written_out(self):
        self.assertEqual(plus((1, 2), (1, 3)), (5, 6))
        self.assertEqual(plus((1, 6), (1, 3)), (1, 2))
        self.assertEqual(plus((1, 2), (-3, 4)), (-1, 4))
        self.assertEqual(times((2, 3), (3, 4)), (1, 2))
        self.assertEqual(times((-2, 3), (3, 2)), (-1, 1))
        self.assertEqual(times((-1, 2), (-1, 3)), (1, 6))
        self.assertEqual(size_of((-3, 4)), (3, 4))
        self.assertEqual(size_of((3, 4)), (3, 4))
        self.assertIs(is_under((1, 3), (1, 2)), True)
        self.assertIs(is_under((-1, 3), (-1, 2)), False)

    def test_sums_and_products_of_all_pairs(self):
        for one in FRACTIONS:
            for other in FRACTIONS:
                self.check(plus(pair(one), pair(other)), one + other)
                self.check(times(pair(one), pair(other)), one * other)

    def test_which_one_is_less_of_all_pairs(self):
        for one in FRACTIONS:
            for other in FRACTIONS:
                self.assertIs(is_under(pair(one), pair(other)), one < other)

    def test_with_nought(self):
        for one in FRACTIONS:
            self.check(plus(pair(one), (0, 1)), one)
            self.check(plus((0, 1), pair(one)), one)
            self.assertEqual(times(pair(one), (0, 1)), (0, 1))
            self.assertEqual(times((0, 1), pair(one)), (0, 1))
            self.assertIs(is_under((0, 1), pair(one)), one > 0)
            self.assertIs(is_under(pair(one), (0, 1)), one < 0)

    def test_with_itself_and_with_the_other_sign(self):
        for one in FRACTIONS:
            self.check(plus(pair(one), pair(one)), one * 2)
            self.assertEqual(plus(pair(one), pair(-one)), (0, 1))
            self.check(times(pair(one), pair(-one)), -one * one)
            self.assertIs(is_under(pair(one), pair(one)), False)
            self.assertIs(is_under(pair(one), pair(-one)), one < 0)

    def test_size_is_without_the_sign(self):
        for one in FRACTIONS:
            self.check(size_of(pair(one)), abs(one))
            self.assertEqual(size_of(pair(one)), size_of(pair(-one)))


if __name__ == "__main__":
    unittest.main()
