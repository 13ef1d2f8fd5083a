"""Gain, delay, echo, back and hall: their rows [12], blocks and states [13], and what [14] to [17] tell of them."""

import copy
import unittest
from fractions import Fraction
from itertools import permutations

from helpers import backed, check_own, cut, cuttings, delayed, echoed, gained, halled, pair, some_row, spoil, tones_of
from mixbench.echoes import Back, Echo, Hall
from mixbench.parts import Delay, Gain, Part

GAINS = [Fraction(1000), Fraction(-1000), Fraction(1, 1000), Fraction(-1, 1000), Fraction(999, 1000),
         Fraction(-999, 1000), Fraction(0), Fraction(1), Fraction(-1), Fraction(2, 3), Fraction(-3, 2)]
SMALL_GAINS = [gain for gain in GAINS if abs(gain) < 1] + [Fraction(1, 2), Fraction(-1, 2)]
ROW = some_row(5, 24)
BOTTOMS = [1, 6, 35]


def gain_case(gain):
    return (Gain(pair(gain)), lambda row: gained(row, gain))


def delay_case(many):
    return (Delay(many), lambda row: delayed(row, many))


def echo_case(gain, many, turns):
    return (Echo(pair(gain), many, turns), lambda row: echoed(row, gain, many, turns))


def back_case(gain, many):
    return (Back(pair(gain), many), lambda row: backed(row, gain, many))


def hall_case(gain, many):
    return (Hall(pair(gain), many), lambda row: halled(row, gain, many))


CASES = (
    [gain_case(gain) for gain in GAINS]
    + [delay_case(many) for many in (0, 1, 2, 5, 23, 24, 25, 1000)]
    + [echo_case(gain, many, turns) for gain in GAINS for many in (1, 5, 30, 1000) for turns in (0, 1, 2, 16)]
    + [back_case(gain, many) for gain in GAINS for many in (1, 5, 24, 1000)]
    + [hall_case(gain, many) for gain in SMALL_GAINS for many in (1, 2, 5, 24, 1000)]
)
ONE_OF_EACH = [Gain((-2, 3)), Delay(2), Echo((1, 2), 2, 3), Back((-1, 3), 2), Hall((-9, 10), 2)]


def at_once(part, tops, bottom):
    out, state = part.through(part.fresh(), tops, bottom)
    return tones_of((out, bottom * part.grain()))


def in_turn(parts, tops, bottom):
    for part in parts:
        tops = part.through(part.fresh(), tops, bottom)[0]
        bottom *= part.grain()
    return tones_of((tops, bottom))


class Rows(unittest.TestCase):
    def test_against_the_sums(self):
        for part, awaited in CASES:
            for bottom in BOTTOMS:
                with self.subTest(word=part.word(), bottom=bottom):
                    row = [Fraction(top, bottom) for top in ROW]
                    self.assertEqual(at_once(part, ROW, bottom), awaited(row))

    def test_written_out(self):
        self.assertEqual(at_once(Gain((-1, 2)), [3, 4], 1), [Fraction(-3, 2), -2])
        self.assertEqual(at_once(Delay(2), [3, 4, 5], 1), [0, 0, 3])
        self.assertEqual(at_once(Delay(0), [3, 4, 5], 1), [3, 4, 5])
        self.assertEqual(at_once(Echo((1, 2), 1, 2), [8, 0, 0, 0], 1), [8, 4, 2, 0])
        self.assertEqual(at_once(Echo((0, 1), 1, 2), [8, 0, 1], 1), [8, 0, 1])
        self.assertEqual(at_once(Echo((1, 2), 1, 0), [8, 1], 1), [8, 1])
        self.assertEqual(at_once(Back((1, 2), 2), [8, 1, 0, 0], 1), [8, 1, -4, Fraction(-1, 2)])
        self.assertEqual(at_once(Hall((1, 2), 1), [7, 0, 0, 0], 1), [7, 3, 1, 0])

    def test_what_is_behind_the_halls_point_is_left_out_toward_nought(self):
        self.assertEqual(at_once(Hall((1, 2), 1), [-7, 0, 0, 0], 1), [-7, -3, -1, 0])
        self.assertEqual(at_once(Hall((-1, 2), 1), [7, 0, 0, 0], 1), [7, -3, 1, 0])
        self.assertEqual(at_once(Hall((-1, 2), 1), [-7, 0, 0, 0], 1), [-7, 3, -1, 0])
        self.assertEqual(at_once(Hall((9, 10), 1), [-1, 0], 1), [-1, 0])
        self.assertEqual(at_once(Hall((1, 2), 1), [-15, 1], 4), [Fraction(-15, 4), Fraction(-3, 4)])
        self.assertEqual(at_once(Hall((1, 2), 2), [-16, 0, 0], 4), [-4, 0, -2])

    def test_without_tones(self):
        for part, awaited in CASES:
            self.assertEqual(at_once(part, [], 3), [])

    def test_long_rows(self):
        row = some_row(9, 2500)
        tones = [Fraction(top, 2) for top in row]
        for part, awaited in (delay_case(1000), echo_case(Fraction(-1, 3), 1000, 16), hall_case(Fraction(9, 10), 1000),
                              back_case(Fraction(7, 9), 999), echo_case(Fraction(1, 2), 150, 16)):
            self.assertEqual(at_once(part, row, 2), awaited(tones))


class Blocks(unittest.TestCase):
    def test_in_whatever_cuts(self):
        for part, awaited in CASES:
            whole = part.through(part.fresh(), ROW, 6)[0]
            for lengths in cuttings(len(ROW), part.reach() or 0):
                state = part.fresh()
                out = []
                for block in cut(ROW, lengths):
                    told, state = part.through(state, block, 6)
                    self.assertEqual(len(told), len(block))
                    out += told
                self.assertEqual(out, whole, (part.word(), lengths))

    def test_a_state_that_was_handed_in_stays(self):
        for part, awaited in CASES:
            state = part.fresh()
            for block in cut(ROW, [3, 0, 1, 7]):
                before = copy.deepcopy(state)
                once = part.through(state, block, 6)
                self.assertEqual(state, before)
                part.through(state, [99, -99, 5], 6)
                part.through(once[1], [98], 6)
                again = part.through(state, block, 6)
                self.assertEqual(again[0], once[0])
                self.assertEqual(part.through(again[1], ROW, 6)[0], part.through(once[1], ROW, 6)[0])
                state = once[1]

    def test_a_fresh_state_is_as_fresh_afterwards(self):
        for part, awaited in CASES:
            first = part.through(part.fresh(), ROW, 1)
            self.assertEqual(part.through(part.fresh(), ROW, 1)[0], first[0])

    def test_the_grain_is_always_the_same(self):
        for part, awaited in CASES:
            grain = part.grain()
            self.assertIs(type(grain), int)
            self.assertGreaterEqual(grain, 1)
            state = part.through(part.fresh(), ROW, 5)[1]
            self.assertEqual(part.grain(), grain)
            part.through(state, [1, 2, 3], 5)
            self.assertEqual(part.grain(), grain)

    def test_rows_told_are_the_askers_own(self):
        for part, awaited in CASES:
            for tops in ([], [1], [5, 6, 7]):
                check_own(self, lambda given: part.through(part.fresh(), given, 2)[0], [tops])

    def test_rows_handed_in_or_told_and_changed_leave_the_state(self):
        for part, awaited in CASES:
            whole = part.through(part.fresh(), ROW, 1)[0]
            handed = ROW[:9]
            told, state = part.through(part.fresh(), handed, 1)
            self.assertEqual(handed, ROW[:9])
            spoil(told)
            spoil(handed)
            self.assertEqual(part.through(state, ROW[9:], 1)[0], whole[9:])


class Places(unittest.TestCase):
    def test_gain_delay_echo_and_back_change_places(self):
        parts = [Gain((-2, 3)), Delay(2), Echo((-1, 2), 3, 4), Back((5, 7), 1), Echo((1, 3), 1, 2)]
        awaited = in_turn(parts, ROW, 6)
        for order in permutations(parts):
            self.assertEqual(in_turn(order, ROW, 6), awaited)

    def test_an_echo_and_then_a_back(self):
        for gain in GAINS:
            for many in (1, 3, 30):
                for turns in (0, 1, 4, 16):
                    told = in_turn([Echo(pair(gain), many, turns), Back(pair(gain), many)], ROW, 6)
                    row = [Fraction(top, 6) for top in ROW]
                    behind = delayed(row, (turns + 1) * many)
                    self.assertEqual(told, [x - gain ** (turns + 1) * y for x, y in zip(row, behind)])

    def test_linear(self):
        other = some_row(6, 24)
        mixed = [3 * x - 5 * y for x, y in zip(ROW, other)]
        for part in ONE_OF_EACH[:4]:
            pairs = zip(at_once(part, ROW, 1), at_once(part, other, 1))
            self.assertEqual(at_once(part, mixed, 1), [3 * x - 5 * y for x, y in pairs])


class Told(unittest.TestCase):
    def test_reach(self):
        for gain in GAINS:
            self.assertEqual(Gain(pair(gain)).reach(), 0)
            self.assertEqual(Back(pair(gain), 7).reach(), 7)
            self.assertEqual(Echo(pair(gain), 7, 3).reach(), 21)
            self.assertEqual(Echo(pair(gain), 7, 0).reach(), 0)
        for gain in SMALL_GAINS:
            self.assertIsNone(Hall(pair(gain), 7).reach())
        self.assertEqual([Delay(many).reach() for many in (0, 1, 1000)], [0, 1, 1000])
        self.assertEqual(Echo((1, 2), 1000, 16).reach(), 16000)

    def test_nothing_comes_behind_the_reach(self):
        for part, awaited in CASES:
            if part.reach() is not None:
                told = at_once(part, [7] + [0] * (part.reach() + 9), 1)
                self.assertEqual(told[part.reach() + 1:], [0] * 9)

    def test_weight(self):
        for gain in GAINS:
            size = abs(gain)
            self.assertEqual(Gain(pair(gain)).weight(), pair(size))
            self.assertEqual(Back(pair(gain), 7).weight(), pair(1 + size))
            for turns in (0, 1, 5, 16):
                awaited = sum(size ** turn for turn in range(turns + 1))
                self.assertEqual(Echo(pair(gain), 7, turns).weight(), pair(Fraction(awaited)))
        for gain in SMALL_GAINS:
            self.assertEqual(Hall(pair(gain), 7).weight(), pair(1 / (1 - abs(gain))))
        for many in (0, 1, 1000):
            self.assertEqual(Delay(many).weight(), (1, 1))

    def test_weight_written_out(self):
        self.assertEqual(Echo((-1, 2), 1, 2).weight(), (7, 4))
        self.assertEqual(Echo((0, 1), 1, 16).weight(), (1, 1))
        self.assertEqual(Back((-1, 2), 1).weight(), (3, 2))
        self.assertEqual(Back((0, 1), 1).weight(), (1, 1))
        self.assertEqual(Hall((-999, 1000), 1).weight(), (1000, 1))
        self.assertEqual(Hall((0, 1), 1).weight(), (1, 1))

    def test_no_tone_is_beyond_the_weight(self):
        for part, awaited in CASES:
            most = Fraction(*part.weight()) * max(abs(top) for top in ROW)
            self.assertTrue(all(abs(tone) <= most for tone in at_once(part, ROW, 1)))

    def test_later_is_the_same_again(self):
        for part, awaited in CASES:
            for n in (0, 1, 50):
                later = part.later(n)
                self.assertIs(type(later), type(part))
                self.assertEqual(later.word(), part.word())
                self.assertEqual(at_once(later, ROW, 6), at_once(part, ROW, 6))

    def test_word(self):
        self.assertEqual(Gain((-1, 1000)).word(), "gain:-1/1000")
        self.assertEqual(Gain((0, 1)).word(), "gain:0/1")
        self.assertEqual(Delay(0).word(), "delay:0")
        self.assertEqual(Delay(1000).word(), "delay:1000")
        self.assertEqual(Echo((1, 2), 3, 16).word(), "echo:1/2:3:16")
        self.assertEqual(Echo((-5, 2), 30, 0).word(), "echo:-5/2:30:0")
        self.assertEqual(Back((-3, 4), 7).word(), "back:-3/4:7")
        self.assertEqual(Back((0, 1), 1).word(), "back:0/1:1")
        self.assertEqual(Hall((-999, 1000), 12).word(), "hall:-999/1000:12")
        self.assertEqual(Hall((0, 1), 1).word(), "hall:0/1:1")


class Classes(unittest.TestCase):
    def test_all_stand_under_part_and_none_under_another_one(self):
        kinds = [type(part) for part in ONE_OF_EACH]
        for one in kinds:
            self.assertTrue(issubclass(one, Part))
            for other in kinds:
                self.assertEqual(issubclass(one, other), one is other)

    def test_a_part_can_be_made(self):
        self.assertIsInstance(Part(), Part)


if __name__ == "__main__":
    unittest.main()
