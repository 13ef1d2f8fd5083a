"""Settlers [10], [11], and that lists handed in and told are the asker's own [2]."""

import unittest
from fractions import Fraction
from math import lcm

from helpers import NO_WHOLE_NUMBERS, check_own, cut, cuttings, pair, some_row, settled
from mixbench.errors import NoNumber
from mixbench.settlers import Settler

MOST = 1000000000000
HALF = Fraction(1, 2)


def asked(tops, bottom, greatest):
    settler = Settler(greatest)
    told = settler.settle(tops, bottom)
    return (told, settler.rest, settler.cuts)


class Made(unittest.TestCase):
    def test_greatest_numbers_that_are_taken(self):
        for greatest in (1, 2, 999, MOST - 1, MOST):
            settler = Settler(greatest)
            self.assertEqual(settler.cuts, 0)
            self.assertEqual(settler.rest, (0, 1))

    def test_greatest_numbers_that_are_refused(self):
        for greatest in [0, -1, -MOST, MOST + 1, 10 ** 30] + NO_WHOLE_NUMBERS:
            with self.subTest(greatest=greatest):
                with self.assertRaises(NoNumber):
                    Settler(greatest)


class Settled(unittest.TestCase):
    def check(self, tops, bottom, greatest=MOST):
        told, rest, cuts = asked(tops, bottom, greatest)
        want = settled([Fraction(top, bottom) for top in tops], greatest)
        self.assertEqual((told, rest, cuts), (want[0], pair(want[1]), want[2]))
        self.assertIs(type(told), list)
        self.assertIs(type(rest), tuple)

    def test_no_tones(self):
        self.assertEqual(asked([], 7, 1), ([], (0, 1), 0))

    def test_whole_tones_stay(self):
        self.assertEqual(asked([3, 0, -4], 1, 9), ([3, 0, -4], (0, 1), 0))
        self.assertEqual(asked([6, 0, -8], 2, 9), ([3, 0, -4], (0, 1), 0))

    def test_half_beyond_a_whole_number(self):
        self.assertEqual(asked([1], 2, 9), ([1], (-1, 2), 0))
        self.assertEqual(asked([3], 2, 9), ([2], (-1, 2), 0))
        self.assertEqual(asked([-1], 2, 9), ([0], (-1, 2), 0))
        self.assertEqual(asked([-3], 2, 9), ([-1], (-1, 2), 0))

    def test_just_beside_a_half(self):
        self.assertEqual(asked([49], 100, 9), ([0], (49, 100), 0))
        self.assertEqual(asked([51], 100, 9), ([1], (-49, 100), 0))
        self.assertEqual(asked([-49], 100, 9), ([0], (-49, 100), 0))
        self.assertEqual(asked([-51], 100, 9), ([-1], (49, 100), 0))

    def test_the_rest_is_carried_on(self):
        self.assertEqual(asked([1, 1, 1, 1], 3, 9), ([0, 1, 0, 0], (1, 3), 0))
        self.assertEqual(asked([1, 1, 1, 1], 2, 9), ([1, 0, 1, 0], (0, 1), 0))
        self.assertEqual(asked([-1, -1, -1, -1], 2, 9), ([0, -1, 0, -1], (0, 1), 0))
        self.assertEqual(asked([-1, -1, -1, -1], 3, 9), ([0, -1, 0, 0], (-1, 3), 0))

    def test_against_the_sum(self):
        for seed in range(30):
            for bottom in (1, 2, 3, 8, 30, 997):
                self.check(some_row(seed, 40), bottom)
                self.check(some_row(seed, 40, 10 ** 40), bottom * 10 ** 30)
                self.check(some_row(seed, 40), bottom, 1 + seed)

    def test_the_rest_lies_from_minus_a_half_to_below_a_half(self):
        settler = Settler(3)
        total = Fraction(0)
        whole = 0
        plain = Settler(MOST)
        for seed in range(50):
            for top in some_row(seed, 10, 30):
                settler.settle([top], 8)
                whole += plain.settle([top], 8)[0]
                total += Fraction(top, 8)
                rest = Fraction(*settler.rest)
                self.assertTrue(-HALF <= rest < HALF)
                self.assertEqual(rest, total - whole)


class Cut(unittest.TestCase):
    def test_beyond_at_and_within_the_greatest(self):
        for greatest in (1, 5, MOST):
            self.assertEqual(asked([greatest + 1], 1, greatest), ([greatest], (0, 1), 1))
            self.assertEqual(asked([greatest], 1, greatest), ([greatest], (0, 1), 0))
            self.assertEqual(asked([greatest - 1], 1, greatest), ([greatest - 1], (0, 1), 0))
            self.assertEqual(asked([-greatest - 1], 1, greatest), ([-greatest], (0, 1), 1))
            self.assertEqual(asked([-greatest], 1, greatest), ([-greatest], (0, 1), 0))
            self.assertEqual(asked([1 - greatest], 1, greatest), ([1 - greatest], (0, 1), 0))

    def test_the_settled_tone_is_cut_and_not_the_exact_one(self):
        self.assertEqual(asked([21], 4, 5), ([5], (1, 4), 0))
        self.assertEqual(asked([22], 4, 5), ([5], (-1, 2), 1))
        self.assertEqual(asked([-22], 4, 5), ([-5], (-1, 2), 0))
        self.assertEqual(asked([-23], 4, 5), ([-5], (1, 4), 1))

    def test_the_rest_goes_on_as_if_nothing_were_cut(self):
        self.assertEqual(asked([1001, 0, 1, 0], 3, 5), ([5, 0, 0, 0], (0, 1), 1))
        self.assertEqual(asked([-1001, 100, 1], 3, 5), ([-5, 5, 0], (0, 1), 2))
        for seed in range(20):
            row = some_row(seed, 30)
            self.assertEqual(asked(row, 7, 3)[1], asked(row, 7, MOST)[1])

    def test_cuts_are_counted_on(self):
        settler = Settler(2)
        settler.settle([3, 2, -3], 1)
        self.assertEqual(settler.cuts, 2)
        settler.settle([], 1)
        self.assertEqual(settler.cuts, 2)
        settler.settle([-9, 1, 9], 1)
        self.assertEqual(settler.cuts, 4)


class InBlocks(unittest.TestCase):
    def settle_blocks(self, blocks, bottoms, greatest):
        settler = Settler(greatest)
        told = []
        for at, block in enumerate(blocks):
            bottom = bottoms[at % len(bottoms)]
            told += settler.settle([int(tone * bottom) for tone in block], bottom)
        return (told, settler.rest, settler.cuts)

    def test_in_whatever_cuts(self):
        for seed in range(6):
            row = some_row(seed, 20)
            for greatest in (20, MOST):
                at_once = asked(row, 12, greatest)
                for lengths in cuttings(20, seed):
                    blocks = cut([Fraction(top, 12) for top in row], lengths)
                    for bottoms in ([12], [12, 24, 36], [600, 12, 84]):
                        self.assertEqual(self.settle_blocks(blocks, bottoms, greatest), at_once)

    def test_bottoms_that_have_little_in_common(self):
        settler = Settler(MOST)
        told = []
        tones = []
        for at, bottom in enumerate([2, 3, 5, 1, 7, 4, 9, 1]):
            tops = some_row(at, 5)
            told += settler.settle(tops, bottom)
            tones += [Fraction(top, bottom) for top in tops]
        self.assertEqual((told, settler.rest), (settled(tones, MOST)[0], pair(settled(tones, MOST)[1])))
        row = [int(tone * lcm(9, 4, 5, 7)) for tone in tones]
        self.assertEqual(asked(row, lcm(9, 4, 5, 7), MOST), (told, settler.rest, 0))

    def test_two_settlers_beside_each_other(self):
        one = Settler(5)
        other = Settler(5)
        one.settle([7, 99], 2)
        self.assertEqual((other.rest, other.cuts), ((0, 1), 0))


class AskersOwn(unittest.TestCase):
    def test_rows(self):
        for tops in ([], [1], [3, -4, 100]):
            check_own(self, lambda given: Settler(5).settle(given, 2), [tops])

    def test_a_row_told_and_changed_changes_nothing(self):
        settler = Settler(9)
        settler.settle([1, 2], 3).append(99)
        self.assertEqual(settler.settle([1], 3), [0])
        self.assertEqual(settler.rest, (1, 3))


if __name__ == "__main__":
    unittest.main()
