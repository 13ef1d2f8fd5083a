"""Texts of patches [28], [29]."""

import unittest

from helpers import NO_TEXTS, some_patch
from mixbench.errors import NoBus, NoName, NoNumber, NoPart, NoRow, Ring, Twice
from mixbench.patches import Patch
from mixbench.texts import patch_of, text_of

WHOLE = """track a
track voice
bus main
bus fx
send a fx delay:2 gain:1/2
send fx main
send voice main hall:1/2:3
out main 100
out fx 1000000000000"""
STANDING = "track a\nbus b\nbus c\nsend b c gain:1/2\nout b 5"


class Told(unittest.TestCase):
    def test_the_empty_patch(self):
        self.assertEqual(text_of(Patch()), "")

    def test_each_sort_in_the_order_told(self):
        patch = Patch()
        patch.bus("main")
        patch.track("a")
        patch.out("main", 100)
        patch.bus("fx")
        patch.send("a", "fx", ["delay:2", "gain:1/2"])
        patch.out("fx", 1000000000000)
        patch.send("fx", "main", [])
        patch.track("voice")
        patch.send("voice", "main", ["hall:1/2:3"])
        self.assertEqual(text_of(patch), WHOLE)

    def test_one_line(self):
        patch = Patch()
        patch.track("a")
        self.assertEqual(text_of(patch), "track a")


class Read(unittest.TestCase):
    def test_the_text_without_signs(self):
        self.assertEqual(text_of(patch_of("")), "")
        self.assertEqual(patch_of("").order(), [])

    def test_its_own_text(self):
        self.assertEqual(text_of(patch_of(WHOLE)), WHOLE)
        for seed in range(60):
            patch = some_patch(seed)
            again = patch_of(text_of(patch))
            self.assertEqual(text_of(again), text_of(patch))
            self.assertEqual(again.order(), patch.order())
            self.assertEqual((again.tracks(), again.buses(), again.sends(), again.outs()),
                             (patch.tracks(), patch.buses(), patch.sends(), patch.outs()))

    def test_sorts_in_another_order(self):
        text = "bus main\nout main 7\ntrack a\nsend a main\nbus fx\nsend main fx gain:1/2\ntrack b\nout fx 1"
        self.assertEqual(text_of(patch_of(text)), "track a\ntrack b\nbus main\nbus fx\nsend a main\n"
                                                  "send main fx gain:1/2\nout main 7\nout fx 1")

    def test_names_like_the_first_words(self):
        text = "track track\nbus bus\nbus out\nsend track bus\nout out 3"
        self.assertEqual(text_of(patch_of(text)), text)


class Refused(unittest.TestCase):
    def refused(self, refusal, *lines):
        for line in lines:
            for text in (STANDING + "\n" + line, STANDING + "\n" + line + "\ntrack d", STANDING + "\n" + line + "\nwrong"):
                with self.subTest(text=text):
                    with self.assertRaises(refusal) as caught:
                        patch_of(text)
                    self.assertIs(type(caught.exception), refusal)

    def test_what_is_no_text(self):
        for wrong in NO_TEXTS:
            with self.subTest(wrong=wrong):
                with self.assertRaises(NoRow):
                    patch_of(wrong)

    def test_unknown_words(self):
        self.refused(NoRow, "x", "tracks d", "Track d", "TRACK d", "tones a 1", "undo", "d", "trackd", "outb 5", "track\td")

    def test_too_few_words(self):
        self.refused(NoRow, "track", "bus", "send", "send a", "out", "out b")

    def test_too_many_words(self):
        self.refused(NoRow, "track d e", "track d ", "bus d e", "bus d ", "out b 5 6", "out c 5 ", "track  d", "bus  d",
                     "out  c 5", "out c  5")

    def test_a_blank_ahead(self):
        self.refused(NoRow, " track d", " bus d", " send a b", " out c 5", " ", "  ")

    def test_a_line_without_signs(self):
        self.refused(NoRow, "")
        for text in ("\n", "\n" + STANDING, STANDING + "\n", "track a\n", "track a\n\nbus b", "\n\n", " ", "\ntrack A"):
            with self.subTest(text=text):
                with self.assertRaises(NoRow):
                    patch_of(text)

    def test_names(self):
        self.refused(NoName, "track ", "bus ", "track D", "bus d1", "track abcdefghi", "track d\r", "bus -")

    def test_names_that_stand(self):
        self.refused(Twice, "track a", "track b", "bus a", "bus b", "out b 7")

    def test_sends(self):
        self.refused(NoBus, "send d b", "send a d", "send a a", "send  a b", "send a  b", "send a ", "send  b",
                     "send A b", "send a b\r", "send d b gain:2/4")
        self.refused(NoPart, "send a b ", "send a b gain", "send a b  gain:1/2", "send a b gain:1/2 ",
                     "send a b gain:1/2  gain:1/2", "send a b gain:2/4", "send a b" + " gain:1/2" * 9, "send c b x")

    def test_rings(self):
        self.refused(Ring, "send c b", "send b b", "send c b gain:1/2")
        with self.assertRaises(Ring) as caught:
            patch_of(STANDING + "\nsend c b")
        self.assertEqual(caught.exception.ring, ["b", "c"])

    def test_outlets(self):
        self.refused(NoBus, "out d 5", "out a 5", "out d x", "out a 0", "out  5", "out d ", "out  ")
        self.refused(Twice, "out b 5", "out b x", "out b 0", "out b ")
        self.refused(NoNumber, "out c 0", "out c 05", "out c 00", "out c +5", "out c -5", "out c -0", "out c 1000000000001",
                     "out c x", "out c ", "out c 5.", "out c 1/1", "out c 5\r", "out c 0000000000000000005",
                     "out c " + "9" * 5000, "out c 1_0", "out c \u0665", "out c \u00b2", "out c 0x5")

    def test_the_first_line_that_is_refused(self):
        for refusal, text in ((NoName, "track A\nbus"), (NoRow, "bus\ntrack A"), (Twice, "track a\ntrack a\nsend x y"),
                              (NoBus, "track a\nsend x y\ntrack a"), (NoNumber, "bus a\nout a 0\nsend a a"),
                              (Ring, "bus a\nsend a a\nout a 0"), (NoPart, "bus a\nsend a a x\n")):
            with self.assertRaises(refusal):
                patch_of(text)

    def test_a_line_that_comes_too_early(self):
        for text in ("send a b\ntrack a\nbus b", "out b 5\nbus b", "bus b\nsend a b\ntrack a"):
            with self.assertRaises(NoBus):
                patch_of(text)

    def test_edges_that_are_taken(self):
        for line in ("out c 1", "out c 1000000000000", "send a c" + " gain:1/2" * 8, "track abcdefgh", "send b c"):
            self.assertIn(line, text_of(patch_of(STANDING + "\n" + line)).split("\n"))


if __name__ == "__main__":
    unittest.main()
