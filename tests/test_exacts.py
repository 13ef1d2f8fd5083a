"""Exact rows [8], [9], and that lists handed in and told are the asker's own [2]."""

import unittest
from fractions import Fraction

from helpers import check_own, pair, some_row, tones_of
from mixbench.exacts import same_tones, summed, tone_at

LONG = 7 ** 1000
ROWS = [([], 1), ([], 6), ([0], 1), ([0, 0], 9), ([1, -2, 3], 4), ([-7], 3), ([5, 0, -5, 10], 5), ([2, 4, 6, 8, 10], 2),
        ([1, 2], LONG), (some_row(1, 12), 36), (some_row(2, 7), 30)]


class Same(unittest.TestCase):
    def check(self, one, other, same):
        self.assertIs(same_tones(one, other), same)
        self.assertIs(same_tones(other, one), same)

    def test_over_other_bottoms(self):
        self.check(([1, -2, 3], 4), ([1, -2, 3], 4), True)
        self.check(([1, -2, 3], 4), ([2, -4, 6], 8), True)
        self.check(([2, -4, 6], 8), ([3, -6, 9], 12), True)
        self.check(([5, -10], 5), ([1, -2], 1), True)
        self.check(([LONG], LONG * 2), ([1], 2), True)

    def test_one_top_other(self):
        self.check(([1, 2, 3], 4), ([1, 2, 4], 4), False)
        self.check(([1, 2, 3], 4), ([2, 4, 7], 8), False)
        self.check(([1, 2, 3], 4), ([-1, 2, 3], 4), False)
        self.check(([0, 2], 4), ([1, 2], 4), False)

    def test_the_same_tops_over_another_bottom(self):
        self.check(([1, 2], 3), ([1, 2], 4), False)
        self.check(([0, 1], 3), ([0, 1], 4), False)

    def test_a_tone_more_and_a_tone_fewer(self):
        self.check(([1, 2], 3), ([1, 2, 5], 3), False)
        self.check(([1, 2], 3), ([1, 2, 0], 3), False)
        self.check(([1, 2], 3), ([2, 4, 0], 6), False)
        self.check(([0], 1), ([], 1), False)
        self.check(([0, 0], 2), ([0], 1), False)

    def test_noughts_are_the_same_over_any_bottom(self):
        self.check(([0, 0], 1), ([0, 0], 17), True)
        self.check(([0], LONG), ([0], 2), True)

    def test_rows_without_tones(self):
        self.check(([], 1), ([], 1), True)
        self.check(([], 1), ([], 5), True)

    def test_all_pairs(self):
        for one in ROWS:
            for other in ROWS:
                self.assertIs(same_tones(one, other), tones_of(one) == tones_of(other))


class Summed(unittest.TestCase):
    def check(self, rows):
        told = summed(rows)
        self.assertIs(type(told), tuple)
        self.assertIs(type(told[0]), list)
        self.assertGreaterEqual(told[1], 1)
        tones = [tones_of(row) for row in rows]
        most = max([len(row) for row in tones], default=0)
        awaited = [sum(row[at] if at < len(row) else 0 for row in tones) for at in range(most)]
        self.assertEqual(tones_of(told), awaited)

    def test_of_no_rows(self):
        self.assertEqual(summed([])[0], [])
        self.check([])

    def test_of_one(self):
        for row in ROWS:
            self.check([row])

    def test_written_out(self):
        self.assertEqual(tones_of(summed([([1, 1], 2), ([1], 3)])), [Fraction(5, 6), Fraction(1, 2)])
        self.assertEqual(tones_of(summed([([1], 3), ([1, 1], 2)])), [Fraction(5, 6), Fraction(1, 2)])
        self.assertEqual(tones_of(summed([([1], 3), ([-1], 3)])), [0])

    def test_of_two(self):
        for one in ROWS:
            for other in ROWS:
                self.check([one, other])

    def test_of_many(self):
        self.check(ROWS)
        self.check(ROWS[::-1])
        self.check(ROWS * 3)

    def test_noughts_at_the_end_stay(self):
        self.assertEqual(len(summed([([1, 0, 0], 2), ([1], 2)])[0]), 3)

    def test_of_rows_without_tones(self):
        self.check([([], 4), ([], 6)])
        self.check([([], 4), ([1], 6)])


class ToneAt(unittest.TestCase):
    def test_in_lowest_terms(self):
        self.assertEqual(tone_at(([2, 3, 4, 6], 6), 0), (1, 3))
        self.assertEqual(tone_at(([2, 3, 4, 6], 6), 1), (1, 2))
        self.assertEqual(tone_at(([2, 3, 4, 6], 6), 2), (2, 3))
        self.assertEqual(tone_at(([2, 3, 4, 6], 6), 3), (1, 1))

    def test_first_and_last_place(self):
        self.assertEqual(tone_at(([5], 10), 0), (1, 2))
        self.assertEqual(tone_at(([5, 7, 9], 10), 0), (1, 2))
        self.assertEqual(tone_at(([5, 7, 9], 10), 2), (9, 10))

    def test_nought(self):
        self.assertEqual(tone_at(([1, 0], 12), 1), (0, 1))

    def test_below_nought(self):
        self.assertEqual(tone_at(([-6], 4), 0), (-3, 2))
        self.assertEqual(tone_at(([-8], 4), 0), (-2, 1))

    def test_every_place(self):
        for row in ROWS:
            for at, tone in enumerate(tones_of(row)):
                self.assertEqual(tone_at(row, at), pair(tone))
                self.assertIs(type(tone_at(row, at)), tuple)


class AskersOwn(unittest.TestCase):
    def test_exact_rows(self):
        check_own(self, same_tones, [([1, 2], 3), ([2, 4], 6)])
        check_own(self, tone_at, [([1, 2], 4), 1])

    def test_sums(self):
        for rows in ([], [([1, 2], 3)], [([1], 1), ([2, 3], 1)], [([], 1)], [([], 2), ([], 3)], ROWS):
            check_own(self, summed, [rows])


if __name__ == "__main__":
    unittest.main()
