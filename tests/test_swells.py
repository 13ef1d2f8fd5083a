"""Swells: their rows [12], blocks and states [13], and what [14] to [17] tell of them."""

import copy
import unittest
from fractions import Fraction

from helpers import check_own, cut, cuttings, pair, some_row, spoil, swell_at, swelled, tones_of
from mixbench.echoes import Back, Echo, Hall
from mixbench.parts import Delay, Gain, Part
from mixbench.swells import Swell

TWELVE = [(at * at + at // 3, Fraction((-1) ** at * (at + 1), 13 - at)) for at in range(12)]
CORNERS = [
    [(0, Fraction(1, 2))],
    [(7, Fraction(-1000))],
    [(100000, Fraction(0))],
    [(3, Fraction(1, 3)), (4, Fraction(-5, 7))],
    [(0, Fraction(0)), (1, Fraction(1))],
    [(2, Fraction(1)), (12, Fraction(0))],
    [(5, Fraction(-3, 4)), (12, Fraction(-3, 4)), (18, Fraction(2))],
    [(0, Fraction(1, 1000)), (100000, Fraction(-999, 1000))],
    [(1, Fraction(1)), (2, Fraction(2)), (3, Fraction(3)), (29, Fraction(1, 999))],
    [(10, Fraction(1000)), (99999, Fraction(1, 1000)), (100000, Fraction(-1, 1000))],
    TWELVE,
]
ROW = some_row(8, 150)


def made(corners):
    return Swell([(at, pair(gain)) for at, gain in corners])


def at_once(part, tops, bottom):
    return tones_of((part.through(part.fresh(), tops, bottom)[0], bottom * part.grain()))


class Rows(unittest.TestCase):
    def test_against_the_sums(self):
        for corners in CORNERS:
            for bottom in (1, 6):
                tones = [Fraction(top, bottom) for top in ROW]
                self.assertEqual(at_once(made(corners), ROW, bottom), swelled(tones, corners))

    def test_one_corner(self):
        self.assertEqual(at_once(Swell([(3, (-1, 2))]), [2] * 6, 1), [-1] * 6)

    def test_up_to_at_between_and_behind_two(self):
        told = at_once(Swell([(2, (1, 1)), (6, (3, 1))]), [2] * 9, 1)
        self.assertEqual(told, [2, 2, 2, 3, 4, 5, 6, 6, 6])

    def test_between_corners_in_parts_of_a_whole(self):
        told = at_once(Swell([(0, (1, 1)), (3, (0, 1))]), [1] * 5, 1)
        self.assertEqual(told, [1, Fraction(2, 3), Fraction(1, 3), 0, 0])

    def test_corners_next_to_each_other(self):
        told = at_once(Swell([(3, (1, 2)), (4, (-1, 3))]), [6] * 7, 1)
        self.assertEqual(told, [3, 3, 3, 3, -2, -2, -2])

    def test_through_nought(self):
        told = at_once(Swell([(0, (-1, 1)), (4, (1, 1))]), [4] * 5, 1)
        self.assertEqual(told, [-4, -2, 0, 2, 4])

    def test_corners_far_apart(self):
        swell = Swell([(0, (0, 1)), (100000, (1000, 1))])
        state = swell.through(swell.fresh(), [0] * 99998, 1)[1]
        told = tones_of((swell.through(state, [1] * 4, 1)[0], swell.grain()))
        self.assertEqual(told, [Fraction(99998, 100), Fraction(99999, 100), 1000, 1000])

    def test_without_tones(self):
        for corners in CORNERS:
            self.assertEqual(at_once(made(corners), [], 3), [])


class Blocks(unittest.TestCase):
    def test_in_whatever_cuts(self):
        for corners in CORNERS:
            part = made(corners)
            whole = part.through(part.fresh(), ROW, 6)[0]
            for lengths in cuttings(len(ROW)) + [[4, 0, 1], [3, 1], [2, 2, 2, 2], [0, 10, 0, 1]]:
                state = part.fresh()
                out = []
                for block in cut(ROW, lengths):
                    told, state = part.through(state, block, 6)
                    out += told
                self.assertEqual(out, whole)

    def test_a_state_that_was_handed_in_stays(self):
        for corners in CORNERS:
            part = made(corners)
            state = part.fresh()
            for block in cut(ROW, [3, 0, 1, 7, 30]):
                before = copy.deepcopy(state)
                once = part.through(state, block, 6)
                self.assertEqual(state, before)
                part.through(once[1], [5, 6], 6)
                again = part.through(state, block, 6)
                self.assertEqual(again[0], once[0])
                self.assertEqual(part.through(again[1], ROW, 6)[0], part.through(once[1], ROW, 6)[0])
                state = once[1]

    def test_one_grain_for_all_blocks(self):
        for corners in CORNERS:
            part = made(corners)
            grain = part.grain()
            self.assertIs(type(grain), int)
            self.assertGreaterEqual(grain, 1)
            state = part.fresh()
            at = 0
            for block in cut(ROW, [1, 2, 0, 1, 5, 9]):
                told, state = part.through(state, block, 1)
                self.assertEqual(part.grain(), grain)
                awaited = [swell_at(corners, at + place) * tone for place, tone in enumerate(block)]
                self.assertEqual(tones_of((told, grain)), awaited)
                at += len(block)

    def test_lists_are_the_askers_own(self):
        part = made(TWELVE)
        for tops in ([], [1], [5, 6, 7]):
            check_own(self, lambda given: part.through(part.fresh(), given, 2)[0], [tops])

    def test_corners_handed_in_are_not_kept(self):
        corners = [(2, (1, 2)), (5, (0, 1))]
        part = Swell(corners)
        awaited = (part.word(), at_once(part, ROW, 1), part.weight(), part.later(2).word())
        self.assertEqual(corners, [(2, (1, 2)), (5, (0, 1))])
        corners[0] = (1, (7, 1))
        corners.append((9, (9, 1)))
        self.assertEqual((part.word(), at_once(part, ROW, 1), part.weight(), part.later(2).word()), awaited)

    def test_a_row_told_and_changed_changes_nothing(self):
        part = made(TWELVE)
        told, state = part.through(part.fresh(), [1, 2, 3], 1)
        spoil(told)
        again = part.through(part.fresh(), [1, 2, 3], 1)[0] + part.through(state, [4], 1)[0]
        self.assertEqual(tones_of((again, part.grain())), swelled([1, 2, 3, 4], TWELVE))


class Told(unittest.TestCase):
    def test_linear(self):
        other = some_row(9, 150)
        for corners in CORNERS:
            part = made(corners)
            mixed = [3 * x - 5 * y for x, y in zip(ROW, other)]
            pairs = zip(at_once(part, ROW, 1), at_once(part, other, 1))
            self.assertEqual(at_once(part, mixed, 1), [3 * x - 5 * y for x, y in pairs])

    def test_reach(self):
        for corners in CORNERS:
            self.assertEqual(made(corners).reach(), 0)

    def test_weight(self):
        for corners in CORNERS:
            self.assertEqual(made(corners).weight(), pair(max(abs(gain) for at, gain in corners)))
        self.assertEqual(Swell([(0, (1, 2)), (1, (-3, 4)), (2, (2, 3))]).weight(), (3, 4))
        self.assertEqual(Swell([(0, (0, 1))]).weight(), (0, 1))

    def test_later(self):
        part = Swell([(0, (1, 2)), (7, (-3, 4))])
        self.assertEqual(part.later(0).word(), "swell:0=1/2,7=-3/4")
        self.assertEqual(part.later(5).word(), "swell:5=1/2,12=-3/4")
        self.assertEqual(part.word(), "swell:0=1/2,7=-3/4")
        self.assertIs(type(part.later(3)), Swell)

    def test_later_rows(self):
        for corners in CORNERS:
            if corners[-1][0] < 100000:
                for n in (0, 1, 2, 40):
                    told = at_once(made(corners).later(n), [0] * n + ROW, 1)
                    self.assertEqual(told, [0] * n + at_once(made(corners), ROW, 1))

    def test_word(self):
        self.assertEqual(Swell([(0, (0, 1))]).word(), "swell:0=0/1")
        self.assertEqual(Swell([(3, (-1, 2)), (100000, (1000, 1))]).word(), "swell:3=-1/2,100000=1000/1")
        self.assertEqual(made(TWELVE).word().count("="), 12)

    def test_stands_under_part_alone(self):
        self.assertTrue(issubclass(Swell, Part))
        for other in (Gain, Delay, Echo, Back, Hall):
            self.assertFalse(issubclass(Swell, other))
            self.assertFalse(issubclass(other, Swell))


if __name__ == "__main__":
    unittest.main()
