"""Chains [18], and that lists handed in and told are the asker's own [2]."""

import unittest
from fractions import Fraction

from helpers import NO_TEXTS, backed, cut, cuttings, delayed, echoed, gained, halled, pair, some_row, spoil, swelled
from helpers import tones_of
from mixbench.chains import Chain
from mixbench.errors import NoPart

ROW = some_row(11, 30)
EIGHT = ["gain:-2/3", "delay:2", "echo:1/2:3:4", "back:-1/5:1", "swell:2=1/1,9=1/3", "delay:0", "gain:3/1", "gain:1/7"]
CHAINS = [[], ["gain:1/2"], ["delay:3"], ["hall:1/2:2"], ["gain:1/3", "hall:-9/10:1", "echo:1/2:1:3"], EIGHT,
          ["hall:1/2:1", "gain:1/3"], ["gain:1/3", "hall:1/2:1"], ["gain:2/1", "swell:0=1/2,7=1/3"]]


def fed(words, blocks, bottom):
    chain = Chain(words)
    told = []
    for block in blocks:
        row = chain.through(block, bottom)
        assert len(row[0]) == len(block)
        told += tones_of(row)
    return told


class Made(unittest.TestCase):
    def test_taken(self):
        for words in CHAINS:
            self.assertEqual(Chain(words).words(), words)
        self.assertEqual(len(EIGHT), 8)

    def test_nine_words_are_refused(self):
        for words in (EIGHT + ["delay:0"], ["gain:1/1"] * 9, ["x"] * 9, ["delay:1"] * 100):
            with self.assertRaises(NoPart):
                Chain(words)

    def test_words_that_tell_no_part_are_refused(self):
        for wrong in ["", "gain", "gain:2/4", "delay:1001", "hall:1/1:1", "gain:1/2 delay:1", ["gain:1/2"]] + NO_TEXTS:
            for words in ([wrong], ["gain:1/2", wrong], [wrong, "gain:1/2"], EIGHT[:7] + [wrong]):
                with self.subTest(words=words):
                    with self.assertRaises(NoPart):
                        Chain(words)

    def test_what_is_no_list_is_refused(self):
        for wrong in (None, True, False, 0, 8, "", "gain:1/2", (), ("gain:1/2",), {}, {"gain:1/2": 1}, 1.5):
            with self.subTest(wrong=wrong):
                with self.assertRaises(NoPart):
                    Chain(wrong)


class Through(unittest.TestCase):
    def test_without_parts(self):
        self.assertEqual(fed([], [ROW], 6), [Fraction(top, 6) for top in ROW])

    def test_each_part_is_handed_what_goes_out_of_the_one_ahead(self):
        tones = [Fraction(top, 6) for top in ROW]
        awaited = halled(gained(tones, Fraction(1, 3)), Fraction(-9, 10), 1)
        self.assertEqual(fed(CHAINS[4], [ROW], 6), echoed(awaited, Fraction(1, 2), 1, 3))
        awaited = backed(echoed(delayed(gained(tones, Fraction(-2, 3)), 2), Fraction(1, 2), 3, 4), Fraction(-1, 5), 1)
        awaited = gained(swelled(awaited, [(2, Fraction(1)), (9, Fraction(1, 3))]), Fraction(3, 7))
        self.assertEqual(fed(EIGHT, [ROW], 6), awaited)

    def test_the_order_of_the_words_counts(self):
        self.assertEqual(fed(["hall:1/2:1", "gain:1/3"], [[3, 0, 0]], 1), [1, Fraction(1, 3), 0])
        self.assertEqual(fed(["gain:1/3", "hall:1/2:1"], [[3, 0, 0]], 1), [1, 0, 0])

    def test_in_whatever_blocks(self):
        for words in CHAINS:
            for bottom in (1, 6):
                at_once = fed(words, [ROW], bottom)
                for lengths in cuttings(len(ROW)):
                    self.assertEqual(fed(words, cut(ROW, lengths), bottom), at_once)

    def test_the_bottom_is_the_one_handed_in_times_the_grain(self):
        for words in CHAINS:
            chain = Chain(words)
            for block in ([1, 2], [], [3]):
                row = chain.through(block, 5)
                self.assertEqual(row[1], 5 * chain.grain())
                self.assertIs(type(row), tuple)
                self.assertIs(type(row[0]), list)

    def test_two_chains_of_the_same_words_do_not_share_their_states(self):
        one = Chain(["delay:1"])
        other = Chain(["delay:1"])
        one.through([5], 1)
        self.assertEqual(other.through([0, 0], 1)[0], [0, 0])
        self.assertEqual(one.through([0, 0], 1)[0], [5, 0])


class Told(unittest.TestCase):
    def test_grain(self):
        self.assertEqual(Chain([]).grain(), 1)
        for words in CHAINS:
            product = 1
            for word in words:
                product *= Chain([word]).grain()
            self.assertEqual(Chain(words).grain(), product)
            self.assertGreaterEqual(product, 1)

    def test_weight(self):
        self.assertEqual(Chain([]).weight(), (1, 1))
        self.assertEqual(Chain(["gain:-2/3", "echo:1/2:3:2", "gain:0/1"]).weight(), (0, 1))
        self.assertEqual(Chain(["gain:-2/3", "echo:1/2:3:2", "hall:1/2:1"]).weight(), (7, 3))
        for words in CHAINS:
            product = Fraction(1)
            for word in words:
                product *= Fraction(*Chain([word]).weight())
            self.assertEqual(Chain(words).weight(), pair(product))

    def test_reach(self):
        self.assertEqual(Chain([]).reach(), 0)
        self.assertEqual(Chain(["gain:1/2"]).reach(), 0)
        self.assertEqual(Chain(EIGHT).reach(), 2 + 12 + 1)
        self.assertEqual(Chain(["delay:5", "delay:7", "back:1/2:4"]).reach(), 16)
        self.assertIsNone(Chain(["hall:0/1:1"]).reach())
        self.assertIsNone(Chain(["delay:5", "hall:1/2:1", "delay:7"]).reach())

    def test_later(self):
        self.assertEqual(Chain([]).later(3), [])
        self.assertEqual(Chain(["delay:2", "swell:0=1/1,4=0/1", "hall:1/2:1"]).later(3),
                         ["delay:2", "swell:3=1/1,7=0/1", "hall:1/2:1"])
        for words in CHAINS:
            chain = Chain(words)
            self.assertEqual(chain.later(0), words)
            self.assertEqual(fed(chain.later(4), [[0] * 4 + ROW], 1), [0] * 4 + fed(words, [ROW], 1))

    def test_later_leaves_the_chain_as_it_was(self):
        chain = Chain(["swell:0=1/1,4=0/1"])
        chain.through([1], 1)
        chain.later(9)
        self.assertEqual(chain.words(), ["swell:0=1/1,4=0/1"])
        self.assertEqual(tones_of(chain.through([1], 1)), [Fraction(3, 4)])


class AskersOwn(unittest.TestCase):
    def test_words(self):
        for words in CHAINS:
            handed = list(words)
            chain = Chain(handed)
            self.assertEqual(handed, words)
            spoil(handed)
            spoil(chain.words())
            spoil(chain.later(1))
            self.assertEqual(chain.words(), words)
            self.assertEqual(tones_of(chain.through(ROW, 6)), fed(words, [ROW], 6))

    def test_rows(self):
        for words in CHAINS:
            chain = Chain(words)
            told = []
            for block in cut(ROW, [7, 0, 1]):
                handed = list(block)
                row = chain.through(handed, 6)
                self.assertEqual(handed, block)
                told += tones_of(row)
                kept = list(row[0])
                spoil(handed)
                self.assertEqual(row[0], kept)
                spoil(row)
            self.assertEqual(told, fed(words, [ROW], 6))


if __name__ == "__main__":
    unittest.main()
