"""Weights, reaches, headroom and patches made later [25] to [27]."""

import time
import unittest
from fractions import Fraction

from helpers import PLAIN, WITHOUT_HALLS, pair, some_patch, some_rows, tones_of
from mixbench.chains import Chain
from mixbench.engines import Engine
from mixbench.errors import NoBus
from mixbench.measures import has_room, later_patch, reach_of, weight_of
from mixbench.patches import Patch
from mixbench.texts import text_of

NO_NAMES = ["", "other", "MAIN", "a ", None, True, 0, 1.5, [], ["main"], {}, (), ("main",)]


def small_patch():
    patch = Patch()
    patch.track("a")
    patch.bus("main")
    patch.bus("fx")
    patch.bus("mute")
    patch.bus("room")
    patch.bus("last")
    patch.send("fx", "main", ["gain:-1/2", "delay:10"])
    patch.send("a", "fx", ["delay:3", "echo:-1/2:2:2"])
    patch.send("a", "main", ["back:1/3:4"])
    patch.send("a", "room", ["hall:-1/2:1"])
    patch.send("main", "last", [])
    patch.send("room", "last", ["gain:0/1"])
    patch.out("main", 100)
    patch.out("mute", 1)
    return patch


def row_of_buses():
    names = ["bus" + letter for letter in "abcdefghijklmnopqrst"]
    patch = Patch()
    patch.track("a")
    for name in names:
        patch.bus(name)
    for source, bus in zip(["a"] + names, names):
        for word in ("gain:1/2", "delay:7", "gain:-1/5"):
            patch.send(source, bus, [word])
    patch.out(names[-1], 10 ** 12)
    return patch, names


class Weights(unittest.TestCase):
    def test_written_out(self):
        patch = small_patch()
        self.assertEqual(weight_of(patch, "a"), (1, 1))
        self.assertEqual(weight_of(patch, "fx"), (7, 4))
        self.assertEqual(weight_of(patch, "main"), pair(Fraction(7, 8) + Fraction(4, 3)))
        self.assertEqual(weight_of(patch, "mute"), (0, 1))
        self.assertEqual(weight_of(patch, "room"), (2, 1))
        self.assertEqual(weight_of(patch, "last"), pair(Fraction(7, 8) + Fraction(4, 3)))

    def test_against_the_sums(self):
        for seed in range(40):
            patch = some_patch(seed)
            weights = {track: Fraction(1) for track in patch.tracks()}
            for bus in patch.order():
                weights[bus] = sum((weights[source] * Fraction(*Chain(words).weight())
                                    for source, name, words in patch.sends() if name == bus), Fraction(0))
            for name, weight in weights.items():
                self.assertEqual(weight_of(patch, name), pair(weight))

    def test_no_names(self):
        for patch in (Patch(), small_patch()):
            for name in NO_NAMES:
                with self.subTest(name=name):
                    with self.assertRaises(NoBus):
                        weight_of(patch, name)
                    with self.assertRaises(NoBus):
                        reach_of(patch, name)


class Reaches(unittest.TestCase):
    def test_written_out(self):
        patch = small_patch()
        self.assertEqual(reach_of(patch, "a"), 0)
        self.assertEqual(reach_of(patch, "fx"), 7)
        self.assertEqual(reach_of(patch, "main"), 17)
        self.assertEqual(reach_of(patch, "mute"), 0)
        self.assertIsNone(reach_of(patch, "room"))
        self.assertIsNone(reach_of(patch, "last"))

    def test_the_greatest_of_several_sends(self):
        patch = Patch()
        patch.track("a")
        patch.bus("b")
        for many, awaited in (("3", 3), ("1", 3), ("9", 9), ("0", 9)):
            patch.send("a", "b", ["delay:" + many])
            self.assertEqual(reach_of(patch, "b"), awaited)
        patch.send("a", "b", ["hall:0/1:1"])
        self.assertIsNone(reach_of(patch, "b"))

    def test_against_the_sums(self):
        for seed in range(40):
            patch = some_patch(seed, WITHOUT_HALLS)
            reaches = {track: 0 for track in patch.tracks()}
            for bus in patch.order():
                reaches[bus] = max([reaches[source] + Chain(words).reach()
                                    for source, name, words in patch.sends() if name == bus], default=0)
            for name, reach in reaches.items():
                self.assertEqual(reach_of(patch, name), reach)


class ManyWays(unittest.TestCase):
    def test_twenty_buses_with_three_sends_each(self):
        begun = time.monotonic()
        patch, names = row_of_buses()
        weight = Fraction(17, 10) ** 20
        self.assertEqual(weight_of(patch, names[-1]), pair(weight))
        self.assertEqual(reach_of(patch, names[-1]), 140)
        self.assertIs(has_room(patch, names[-1], 1000), True)
        self.assertEqual(text_of(later_patch(patch, 3)), text_of(patch))
        self.assertEqual(len(tones_of(Engine(patch).feed({"a": [1] * 10})[0][names[-1]])), 10)
        self.assertLess(time.monotonic() - begun, 10)


class Room(unittest.TestCase):
    def patch(self, gain, greatest):
        patch = Patch()
        patch.track("a")
        patch.bus("b")
        patch.bus("c")
        patch.send("a", "b", ["gain:" + gain])
        patch.out("b", greatest)
        return patch

    def test_just_enough_and_one_too_little(self):
        self.assertIs(has_room(self.patch("2/1", 21), "b", 10), True)
        self.assertIs(has_room(self.patch("2/1", 20), "b", 10), False)
        self.assertIs(has_room(self.patch("-2/1", 21), "b", 10), True)
        self.assertIs(has_room(self.patch("-2/1", 21), "b", 11), False)
        self.assertIs(has_room(self.patch("1/2", 6), "b", 10), True)
        self.assertIs(has_room(self.patch("1/2", 6), "b", 11), False)
        self.assertIs(has_room(self.patch("1/2", 7), "b", 11), True)
        self.assertIs(has_room(self.patch("1/1", 10 ** 12), "b", 10 ** 12 - 1), True)
        self.assertIs(has_room(self.patch("1/1", 10 ** 12), "b", 10 ** 12), False)

    def test_a_size_of_nought(self):
        self.assertIs(has_room(self.patch("1000/1", 1), "b", 0), True)

    def test_a_bus_without_weight(self):
        self.assertIs(has_room(self.patch("0/1", 1), "b", 10 ** 12), True)
        self.assertIs(has_room(small_patch(), "mute", 10 ** 12), True)

    def test_what_is_no_outlet(self):
        patch = self.patch("1/1", 5)
        for name in NO_NAMES + ["a", "c"]:
            with self.subTest(name=name):
                with self.assertRaises(NoBus):
                    has_room(patch, name, 1)

    def test_with_room_nothing_is_cut(self):
        enough = 0
        for seed in range(60):
            patch = some_patch(seed)
            rows = some_rows(patch, seed, 40, 9)
            engine = Engine(patch)
            engine.feed(rows)
            for bus, greatest in patch.outs():
                if has_room(patch, bus, 9):
                    enough += 1
                    self.assertEqual(engine.cuts_of(bus), 0)
        self.assertGreater(enough, 20)


class Later(unittest.TestCase):
    def test_swells_alone_are_made_later(self):
        patch = Patch()
        patch.track("a")
        patch.bus("c")
        patch.bus("b")
        patch.send("a", "b", ["swell:0=1/1,4=0/1", "delay:3", "swell:7=1/2"])
        patch.send("b", "c", ["hall:1/2:3", "gain:1/2", "echo:1/2:1:1", "back:1/2:1"])
        patch.out("b", 7)
        patch.out("c", 8)
        later = later_patch(patch, 5)
        self.assertEqual(later.tracks(), ["a"])
        self.assertEqual(later.buses(), ["c", "b"])
        self.assertEqual(later.sends(), [("a", "b", ["swell:5=1/1,9=0/1", "delay:3", "swell:12=1/2"]),
                                         ("b", "c", ["hall:1/2:3", "gain:1/2", "echo:1/2:1:1", "back:1/2:1"])])
        self.assertEqual(later.outs(), [("b", 7), ("c", 8)])
        self.assertEqual(later.order(), ["b", "c"])
        self.assertEqual(patch.sends()[0][2][0], "swell:0=1/1,4=0/1")

    def test_by_nought_and_without_swells(self):
        for seed in range(20):
            self.assertEqual(text_of(later_patch(some_patch(seed), 0)), text_of(some_patch(seed)))
            self.assertEqual(text_of(later_patch(some_patch(seed, PLAIN), 9)), text_of(some_patch(seed, PLAIN)))

    def test_a_patch_of_its_own(self):
        patch = small_patch()
        later = later_patch(patch, 2)
        text = text_of(patch)
        later.track("new")
        self.assertEqual(text_of(patch), text)
        patch.bus("other")
        self.assertNotIn("other", later.buses())

    def test_of_the_empty_patch(self):
        self.assertEqual(text_of(later_patch(Patch(), 3)), "")


if __name__ == "__main__":
    unittest.main()
