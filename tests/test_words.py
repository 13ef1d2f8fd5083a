"""Words of parts [17], with the bounds of [12]."""

import unittest

from helpers import NO_TEXTS
from mixbench.echoes import Back, Echo, Hall
from mixbench.errors import NoPart
from mixbench.parts import Delay, Gain
from mixbench.swells import Swell
from mixbench.words import part_of

TWELVE = "swell:" + ",".join(f"{at}=1/{at + 1}" for at in range(12))
TAKEN = {
    Gain: ["gain:0/1", "gain:1/1", "gain:-1/1", "gain:1000/1", "gain:-1000/1", "gain:1/1000", "gain:-1/1000",
           "gain:999/1000", "gain:1000/999"],
    Delay: ["delay:0", "delay:1", "delay:10", "delay:1000"],
    Echo: ["echo:1/2:1:0", "echo:1/2:1000:16", "echo:-1000/1:1:1", "echo:0/1:5:16", "echo:1/1000:10:10"],
    Back: ["back:1/2:1", "back:-1000/1:1000", "back:0/1:3", "back:1/1000:7", "back:1/1:1"],
    Swell: ["swell:0=1/1", "swell:100000=-1000/1", "swell:0=0/1,1=1/1000", "swell:3=1/2,4=1/3,100000=0/1", TWELVE],
    Hall: ["hall:0/1:1", "hall:999/1000:1000", "hall:-999/1000:1", "hall:1/1000:2", "hall:-1/2:10"],
}
# A mould for each number, with a word where it is just within its bounds.
MANY = ["echo:1/2:{}:3", "back:1/2:{}", "hall:1/2:{}"]
GAINED = ["gain:{}", "echo:{}:2:3", "back:{}:2", "swell:5={}", "swell:1=1/1,5={}", "hall:{}:2"]
NUMBERED = MANY + ["delay:{}", "echo:1/2:3:{}", "swell:{}=1/2", "swell:0=1/1,{}=1/2"]


class Taken(unittest.TestCase):
    def test_each_is_of_its_class_and_tells_the_same_word(self):
        for kind, words in TAKEN.items():
            for word in words:
                with self.subTest(word=word):
                    part = part_of(word)
                    self.assertIs(type(part), kind)
                    self.assertEqual(part.word(), word)

    def test_values_are_read(self):
        self.assertEqual(part_of("gain:-3/4").weight(), (3, 4))
        self.assertEqual(part_of("delay:12").reach(), 12)
        self.assertEqual(part_of("echo:-1/2:3:2").reach(), 6)
        self.assertEqual(part_of("echo:-1/2:3:2").weight(), (7, 4))
        self.assertEqual(part_of("back:-1/2:3").weight(), (3, 2))
        self.assertEqual(part_of("back:-1/2:3").reach(), 3)
        self.assertEqual(part_of("hall:-1/2:3").weight(), (2, 1))
        self.assertEqual(part_of("swell:1=1/2,3=-2/1").weight(), (2, 1))
        self.assertEqual(part_of("gain:-3/4").through((), [4, 8], 1)[0], [-12, -24])


class Refused(unittest.TestCase):
    def refused(self, words):
        for word in words:
            with self.subTest(word=word):
                with self.assertRaises(NoPart):
                    part_of(word)

    def filled(self, moulds, values):
        self.refused([mould.format(value) for mould in moulds for value in values])

    def test_numbers_one_beyond(self):
        self.filled(MANY, ["0", "1001", "10000", "-1"])
        self.refused(["delay:1001", "delay:-1", "echo:1/2:3:17", "echo:1/2:3:-1", "swell:100001=1/1", "swell:-1=1/1",
                      "swell:0=1/1,100001=1/1"])
        self.filled(GAINED, ["1001/1", "-1001/1", "1/1001", "-1/1001", "1001/1000", "1000/1001", "1001/1001"])

    def test_numbers_far_beyond(self):
        self.filled(NUMBERED, ["9" * 12, "9" * 5000, "1" + "0" * 2000])
        self.filled(GAINED, ["1/" + "9" * 9, "1/" + "9" * 10, "9" * 5000 + "/1"])

    def test_noughts_ahead(self):
        self.filled(NUMBERED, ["01", "00", "007", "0000000000000001"])
        self.filled(GAINED, ["01/2", "1/02", "-01/2", "00/1"])

    def test_signs_where_none_belong(self):
        for value in ("+5", "-5", "-0", " 5", "5 ", "5.", "5,", "\n5", "5\n", "5_0", "x", "", "0x5", "\u0665", "\u00b2"):
            self.filled(NUMBERED, [value])
        for value in ("+1/2", " 1/2", "1/2 ", "1/+2", "1/-2", "--1/2", "-0/1", "1 /2", "1/2\n", "1", "", "-", "/", "1/",
                      "/2", "1/2/3", "0.5", "a/b"):
            self.filled(GAINED, [value])

    def test_gains_not_in_lowest_terms(self):
        self.filled(GAINED, ["2/4", "-2/4", "0/2", "3/3", "1000/1000", "10/5"])

    def test_gains_with_a_bottom_of_nought(self):
        self.filled(GAINED, ["0/0", "1/0", "-1/0"])

    def test_halls_of_size_one_and_more(self):
        self.refused(["hall:1/1:2", "hall:-1/1:2", "hall:3/2:2", "hall:-1000/999:2", "hall:1000/1:2"])

    def test_too_few_and_too_many_values(self):
        for kind, words in TAKEN.items():
            for word in words:
                self.refused([word + ":", word + ":1", word + ":1/2", word.replace(":", "::", 1), ":" + word,
                              word[:word.rindex(":")], word + ","])
        self.refused(["gain", "delay", "echo", "back", "swell", "hall", "gain:", "delay:", "echo:1/2:3", "echo:1/2",
                      "back:1/2", "hall:1/2", "echo:::", "back::", "hall::"])

    def test_corners(self):
        self.refused(["swell:", "swell", "swell:,", "swell:1=1/2,", "swell:,1=1/2", "swell:1=1/2,,2=1/2", "swell:1",
                      "swell:=", "swell:1=", "swell:=1/2", "swell:1=1/2=3", "swell:1=1/2;2=1/2", "swell:1:1/2",
                      "swell:1=1/2, 2=1/2"])

    def test_thirteen_corners(self):
        self.refused([TWELVE + ",12=1/1"])

    def test_corners_that_do_not_grow(self):
        self.refused(["swell:3=1/1,3=1/2", "swell:3=1/1,2=1/2", "swell:0=1/1,5=1/2,4=1/3", "swell:0=1/1,5=1/2,5=1/2",
                      "swell:0=1/1,0=1/1"])

    def test_unknown_kinds(self):
        self.refused(["", ":", " ", "loud:1/2", "Gain:1/2", "GAIN:1/2", "gain :1/2", " gain:1/2", "gains:1/2", "gai:1/2",
                      "gain=1/2", "gain 1/2", "1/2", "\n", "gain:1/2\n", "gain:1/2 ", "gain:1/2 delay:1"])

    def test_what_is_no_text(self):
        self.refused(NO_TEXTS)


if __name__ == "__main__":
    unittest.main()
