"""Patches [19] to [22], with what [2] and [3] tell of them."""

import copy
import time
import unittest

from helpers import NO_WHOLE_NUMBERS, spoil
from mixbench.errors import NoBus, NoName, NoNumber, NoPart, Ring, Twice
from mixbench.patches import Patch

NO_NAMES = ["", "abcdefghi", "A", "aB", "a1", "1", " ", "a b", " a", "a ", "a\n", "\n", "a-b", "a_b", "\u00e4", "\u0430",
            None, True, False, 0, 1.5, [], ["a"], (), ("a",), {}, b"a"]
NO_GREATEST = [0, -1, 1000000000001] + NO_WHOLE_NUMBERS
NO_CHAINS = [None, "", "gain:1/2", (), ("gain:1/2",), True, 0, {}, [""], ["gain"], ["gain:2/4"], [None], [["gain:1/2"]],
             ["delay:1"] * 9]


def told(patch):
    # A copy, so that a list which the patch itself keeps could not hide a change.
    return copy.deepcopy((patch.tracks(), patch.buses(), patch.sends(), patch.outs(), patch.order()))


def some_patch():
    patch = Patch()
    patch.track("kick")
    patch.bus("main")
    patch.track("voice")
    patch.bus("fx")
    patch.bus("dry")
    patch.send("kick", "fx", ["delay:2", "gain:1/2"])
    patch.send("fx", "main", [])
    patch.send("voice", "main", ["hall:1/2:3"])
    patch.send("voice", "main", ["hall:1/2:3"])
    patch.out("main", 100)
    patch.out("fx", 1000000000000)
    return patch


def row_of_buses():
    """Twenty buses, with three sends from each to the next: 3 ** 19 ways from the first to the last."""
    names = ["bus" + letter for letter in "abcdefghijklmnopqrst"]
    patch = Patch()
    for name in names:
        patch.bus(name)
    for source, bus in zip(names, names[1:]):
        for gain in ("1/2", "1/3", "-1/5"):
            patch.send(source, bus, ["gain:" + gain])
    return patch, names


class Case(unittest.TestCase):
    def refused(self, patch, refusal, asked, *given):
        before = told(patch)
        with self.subTest(given=given):
            with self.assertRaises(refusal) as caught:
                asked(*given)
            self.assertIs(type(caught.exception), refusal)
        self.assertEqual(told(patch), before)
        return caught.exception


class Told(Case):
    def test_the_empty_patch(self):
        self.assertEqual(told(Patch()), ([], [], [], [], []))

    def test_all_in_the_order_told(self):
        patch = some_patch()
        self.assertEqual(patch.tracks(), ["kick", "voice"])
        self.assertEqual(patch.buses(), ["main", "fx", "dry"])
        self.assertEqual(patch.sends(), [("kick", "fx", ["delay:2", "gain:1/2"]), ("fx", "main", []),
                                         ("voice", "main", ["hall:1/2:3"]), ("voice", "main", ["hall:1/2:3"])])
        self.assertEqual(patch.outs(), [("main", 100), ("fx", 1000000000000)])

    def test_nothing_is_answered(self):
        patch = Patch()
        self.assertIsNone(patch.track("a"))
        self.assertIsNone(patch.bus("b"))
        self.assertIsNone(patch.send("a", "b", []))
        self.assertIsNone(patch.out("b", 1))

    def test_lists_told_are_the_askers_own(self):
        patch = some_patch()
        before = told(patch)
        for asked in (patch.tracks, patch.buses, patch.sends, patch.outs, patch.order):
            spoil(asked())
            self.assertEqual(told(patch), before)
        tracks = patch.tracks()
        patch.track("late")
        self.assertEqual(tracks, ["kick", "voice"])

    def test_lists_handed_in_are_not_kept(self):
        patch = some_patch()
        words = ["gain:1/2", "delay:3"]
        patch.send("voice", "dry", words)
        self.assertEqual(words, ["gain:1/2", "delay:3"])
        spoil(words)
        self.assertEqual(patch.sends()[-1], ("voice", "dry", ["gain:1/2", "delay:3"]))

    def test_two_patches_beside_each_other(self):
        some_patch()
        self.assertEqual(told(Patch()), ([], [], [], [], []))


class Names(Case):
    def test_taken(self):
        patch = Patch()
        for name in ("a", "z", "abcdefgh", "zzzzzzzz", "track", "send"):
            patch.track(name)
        for name in ("b", "y", "stuvwxyz", "bus"):
            patch.bus(name)
        self.assertEqual(patch.tracks(), ["a", "z", "abcdefgh", "zzzzzzzz", "track", "send"])
        self.assertEqual(patch.buses(), ["b", "y", "stuvwxyz", "bus"])

    def test_no_names(self):
        for patch in (Patch(), some_patch()):
            for name in NO_NAMES:
                self.refused(patch, NoName, patch.track, name)
                self.refused(patch, NoName, patch.bus, name)

    def test_names_that_stand_already(self):
        patch = some_patch()
        for name in ("kick", "voice", "main", "fx", "dry"):
            self.refused(patch, Twice, patch.track, name)
            self.refused(patch, Twice, patch.bus, name)


class Sends(Case):
    def test_from_tracks_and_buses(self):
        patch = some_patch()
        patch.send("kick", "main", ["gain:1/2"] * 8)
        patch.send("dry", "main", [])
        patch.send("dry", "main", [])
        self.assertEqual(len(patch.sends()), 7)

    def test_no_source(self):
        patch = some_patch()
        for source in NO_NAMES + ["other", "mai", "maina"]:
            self.refused(patch, NoBus, patch.send, source, "main", [])

    def test_no_bus(self):
        patch = some_patch()
        for bus in NO_NAMES + ["other", "kick", "voice"]:
            self.refused(patch, NoBus, patch.send, "kick", bus, [])
            self.refused(patch, NoBus, patch.send, "fx", bus, [])

    def test_no_chain(self):
        patch = some_patch()
        for words in NO_CHAINS:
            self.refused(patch, NoPart, patch.send, "kick", "main", words)

    def test_source_and_bus_go_ahead_of_the_chain(self):
        patch = some_patch()
        for words in NO_CHAINS:
            self.refused(patch, NoBus, patch.send, "other", "main", words)
            self.refused(patch, NoBus, patch.send, "kick", "other", words)
            self.refused(patch, NoBus, patch.send, "other", "other", words)
            self.refused(patch, NoBus, patch.send, None, [], words)

    def test_the_chain_goes_ahead_of_the_ring(self):
        patch = some_patch()
        for words in NO_CHAINS:
            self.refused(patch, NoPart, patch.send, "main", "fx", words)
            self.refused(patch, NoPart, patch.send, "main", "main", words)


class Outlets(Case):
    def test_greatest_numbers(self):
        patch = some_patch()
        patch.out("dry", 1)
        self.assertEqual(patch.outs()[-1], ("dry", 1))
        for greatest in NO_GREATEST:
            other = some_patch()
            self.refused(other, NoNumber, other.out, "dry", greatest)

    def test_no_bus(self):
        patch = some_patch()
        for bus in NO_NAMES + ["other", "kick", "voice"]:
            self.refused(patch, NoBus, patch.out, bus, 5)

    def test_twice(self):
        patch = some_patch()
        self.refused(patch, Twice, patch.out, "main", 100)
        self.refused(patch, Twice, patch.out, "fx", 7)

    def test_no_bus_goes_ahead_of_no_number(self):
        patch = some_patch()
        for greatest in NO_GREATEST:
            self.refused(patch, NoBus, patch.out, "other", greatest)
            self.refused(patch, NoBus, patch.out, "kick", greatest)

    def test_twice_goes_ahead_of_no_number(self):
        patch = some_patch()
        for greatest in NO_GREATEST:
            self.refused(patch, Twice, patch.out, "main", greatest)


class Rings(Case):
    def check_ring(self, patch, source, bus):
        ring = self.refused(patch, Ring, patch.send, source, bus, ["delay:5"]).ring
        self.assertIs(type(ring), list)
        self.assertEqual(len(ring), len(set(ring)))
        self.assertEqual((ring[0], ring[-1]), (bus, source))
        sends = [send[:2] for send in patch.sends()]
        for one, other in zip(ring, ring[1:]):
            self.assertIn((one, other), sends)
        names = list(ring)
        spoil(ring)
        self.refused(patch, Ring, patch.send, source, bus, [])
        return names

    def test_a_bus_to_itself(self):
        patch = some_patch()
        for name in ("main", "fx", "dry"):
            self.assertEqual(self.check_ring(patch, name, name), [name])

    def test_a_ring_of_two(self):
        patch = some_patch()
        self.check_ring(patch, "main", "fx")
        patch.send("main", "dry", [])
        self.check_ring(patch, "dry", "main")

    def test_a_ring_of_many(self):
        patch = Patch()
        names = list("hbgdcafe")
        for name in sorted(names):
            patch.bus(name)
        for source, bus in list(zip(names, names[1:]))[::-1]:
            patch.send(source, bus, [])
        self.assertEqual(self.check_ring(patch, "e", "h"), names)
        self.assertEqual(self.check_ring(patch, "a", "b"), ["b", "g", "d", "c", "a"])
        patch.send("h", "e", [])
        patch.send("h", "a", [])
        self.check_ring(patch, "e", "h")
        self.check_ring(patch, "c", "g")

    def test_a_way_out_of_many_that_end_elsewhere(self):
        patch = Patch()
        for name in "abcdefg":
            patch.bus(name)
        for source, bus in ("ab", "ac", "bd", "cd", "de", "df", "bg", "cg"):
            patch.send(source, bus, [])
        for source in "bcdefg":
            self.check_ring(patch, source, "a")
        self.check_ring(patch, "f", "c")
        patch.send("e", "f", [])
        patch.send("g", "d", [])
        self.check_ring(patch, "f", "b")

    def test_what_closes_no_ring_is_taken(self):
        patch = some_patch()
        patch.send("fx", "dry", [])
        patch.send("dry", "main", [])
        patch.send("fx", "main", [])
        self.check_ring(patch, "main", "dry")

    def test_a_refused_send_leaves_no_way_behind(self):
        patch = some_patch()
        self.check_ring(patch, "main", "fx")
        patch.send("main", "dry", [])
        self.check_ring(patch, "dry", "fx")

    def test_twenty_buses_with_three_sends_each(self):
        begun = time.monotonic()
        patch, names = row_of_buses()
        self.assertEqual(self.check_ring(patch, names[-1], names[0]), names)
        self.check_ring(patch, names[10], names[3])
        patch.send(names[0], names[-1], ["gain:1/7"])
        self.assertEqual(patch.sends()[-1], (names[0], names[-1], ["gain:1/7"]))
        self.assertEqual(patch.order(), names)
        patch.track("voice")
        patch.send("voice", names[0], [])
        self.assertLess(time.monotonic() - begun, 10)

    def test_twenty_buses_told_from_the_last_one_on(self):
        begun = time.monotonic()
        patch = Patch()
        names = ["bus" + letter for letter in "abcdefghijklmnopqrst"]
        for name in names:
            patch.bus(name)
        # Each send is looked at with all ways behind its bus, none of which leads back.
        for source, bus in list(zip(names, names[1:]))[::-1]:
            for turn in range(3):
                patch.send(source, bus, [])
        self.check_ring(patch, names[-1], names[0])
        self.assertEqual(patch.order(), names)
        self.assertLess(time.monotonic() - begun, 10)


class Order(Case):
    def test_without_sends(self):
        patch = Patch()
        for name in ("c", "a", "b"):
            patch.bus(name)
        self.assertEqual(patch.order(), ["c", "a", "b"])

    def test_other_than_told(self):
        self.assertEqual(some_patch().order(), ["fx", "main", "dry"])

    def test_sends_from_tracks_hold_none_back(self):
        patch = Patch()
        patch.bus("a")
        patch.bus("b")
        patch.track("t")
        patch.send("t", "a", [])
        self.assertEqual(patch.order(), ["a", "b"])

    def test_the_first_told_of_several_goes_ahead(self):
        patch = Patch()
        for name in "edcba":
            patch.bus(name)
        patch.send("b", "e", [])
        self.assertEqual(patch.order(), ["d", "c", "b", "e", "a"])
        patch.send("a", "d", [])
        self.assertEqual(patch.order(), ["c", "b", "e", "a", "d"])
        patch.send("d", "e", [])
        self.assertEqual(patch.order(), ["c", "b", "a", "d", "e"])
        patch.send("e", "c", [])
        self.assertEqual(patch.order(), ["b", "a", "d", "e", "c"])
        patch.bus("z")
        self.assertEqual(patch.order(), ["b", "a", "d", "e", "c", "z"])

    def test_again_from_the_first_told_behind_each(self):
        patch = Patch()
        for name in "abcd":
            patch.bus(name)
        patch.send("c", "a", [])
        patch.send("c", "b", [])
        self.assertEqual(patch.order(), ["c", "a", "b", "d"])
        patch.send("d", "a", [])
        self.assertEqual(patch.order(), ["c", "b", "d", "a"])

    def test_a_row_told_backward(self):
        patch = Patch()
        names = list("abcdefgh")
        for name in names[::-1]:
            patch.bus(name)
        for source, bus in zip(names, names[1:]):
            patch.send(source, bus, [])
        self.assertEqual(patch.order(), names)


if __name__ == "__main__":
    unittest.main()
