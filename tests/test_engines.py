"""Engines [23], [24], with what [2] and [3] tell of them."""

import copy
import unittest
from fractions import Fraction

from helpers import flows_of, settled, some_patch, some_rows, spoil, tones_of
from mixbench.engines import Engine
from mixbench.errors import NoBlock, NoBus
from mixbench.patches import Patch

MOST = 1000000000000


def small_patch():
    patch = Patch()
    patch.track("a")
    patch.track("b")
    patch.bus("main")
    patch.bus("fx")
    patch.bus("mute")
    patch.send("fx", "main", ["gain:1/2"])
    patch.send("a", "fx", ["delay:1"])
    patch.send("b", "main", [])
    patch.send("b", "main", ["gain:-1/3"])
    patch.out("main", 5)
    patch.out("fx", MOST)
    patch.out("mute", 1)
    return patch


def tones_of_all(flows):
    return {name: tones_of(row) for name, row in flows.items()}


def fed_all(engine, blocks):
    flows, told = engine.feed(blocks)
    return (tones_of_all(flows), told)


class Flows(unittest.TestCase):
    def test_written_out(self):
        flows, told = Engine(small_patch()).feed({"a": [4, 2, 0], "b": [3, 0, -30]})
        self.assertEqual(tones_of_all(flows), {
            "a": [4, 2, 0], "b": [3, 0, -30], "fx": [0, 4, 2], "main": [2, 2, -19], "mute": [0, 0, 0]})
        self.assertEqual(told, {"main": [2, 2, -5], "fx": [0, 4, 2], "mute": [0, 0, 0]})

    def test_against_the_sums(self):
        for seed in range(60):
            patch = some_patch(seed)
            rows = some_rows(patch, seed, 30)
            engine = Engine(patch)
            flows, told = engine.feed(rows)
            awaited = flows_of(patch, rows)
            self.assertEqual(tones_of_all(flows), awaited)
            self.assertEqual(set(told), {bus for bus, greatest in patch.outs()})
            for bus, greatest in patch.outs():
                want = settled(awaited[bus], greatest)
                self.assertEqual((told[bus], engine.cuts_of(bus)), (want[0], want[2]))

    def test_kinds_of_what_is_told(self):
        told = Engine(small_patch()).feed({"a": [1], "b": [2]})
        self.assertIs(type(told), tuple)
        self.assertEqual([type(one) for one in told], [dict, dict])
        for row in told[0].values():
            self.assertEqual((type(row), type(row[0]), type(row[1])), (tuple, list, int))
            self.assertGreaterEqual(row[1], 1)
        for row in told[1].values():
            self.assertEqual((type(row), [type(tone) for tone in row]), (list, [int]))

    def test_a_bus_without_sends_is_nought_for_each_tone(self):
        patch = Patch()
        patch.track("a")
        patch.bus("b")
        patch.bus("c")
        patch.send("b", "c", ["gain:5/1"])
        patch.out("c", 9)
        self.assertEqual(fed_all(Engine(patch), {"a": [1, 2]}), ({"a": [1, 2], "b": [0, 0], "c": [0, 0]}, {"c": [0, 0]}))

    def test_several_sends_of_one_source_to_one_bus(self):
        patch = Patch()
        patch.track("a")
        patch.bus("b")
        for gain in ("1/2", "1/3", "1/6", "-1/7"):
            patch.send("a", "b", ["gain:" + gain])
        self.assertEqual(fed_all(Engine(patch), {"a": [7]}), ({"a": [7], "b": [6]}, {}))

    def test_each_outlet_has_a_settler_of_its_own(self):
        patch = Patch()
        patch.track("a")
        for bus, gain in (("b", "1/2"), ("c", "1/3")):
            patch.bus(bus)
            patch.send("a", bus, ["gain:" + gain])
            patch.out(bus, 2)
        engine = Engine(patch)
        self.assertEqual(engine.feed({"a": [1, 1]})[1], {"b": [1, 0], "c": [0, 1]})
        self.assertEqual(engine.feed({"a": [1, 7]})[1], {"b": [1, 2], "c": [0, 2]})
        self.assertEqual((engine.cuts_of("b"), engine.cuts_of("c")), (1, 0))

    def test_a_track_without_sends(self):
        patch = Patch()
        patch.track("a")
        self.assertEqual(fed_all(Engine(patch), {"a": [1, 2]}), ({"a": [1, 2]}, {}))

    def test_blocks_without_tones(self):
        engine = Engine(small_patch())
        self.assertEqual(engine.feed({"a": [], "b": []})[1], {"main": [], "fx": [], "mute": []})
        engine.feed({"a": [4], "b": [3]})
        self.assertEqual(tones_of_all(engine.feed({"a": [], "b": []})[0]),
                         {"a": [], "b": [], "fx": [], "main": [], "mute": []})
        self.assertEqual(engine.feed({"a": [0], "b": [0]})[1], {"main": [2], "fx": [4], "mute": [0]})

    def test_a_patch_without_tracks(self):
        patch = Patch()
        self.assertEqual(Engine(patch).feed({}), ({}, {}))
        patch.bus("b")
        patch.bus("c")
        patch.send("b", "c", ["delay:1"])
        patch.out("c", 9)
        engine = Engine(patch)
        for turn in range(2):
            self.assertEqual(fed_all(engine, {}), ({"b": [], "c": []}, {"c": []}))
        self.assertEqual(engine.cuts_of("c"), 0)

    def test_the_greatest_tones_are_taken(self):
        flows, told = Engine(small_patch()).feed({"a": [MOST, -MOST], "b": [0, MOST]})
        self.assertEqual(tones_of(flows["main"]), [0, Fraction(MOST, 2) + Fraction(2 * MOST, 3)])
        self.assertEqual(told["fx"], [0, MOST])

    def test_the_order_of_the_keys_does_not_count(self):
        one = Engine(small_patch()).feed({"a": [4, 2], "b": [3, 0]})
        other = Engine(small_patch()).feed({"b": [3, 0], "a": [4, 2]})
        self.assertEqual((one, list(one[0])), (other, list(other[0])))


class OfAPatchAsItStands(unittest.TestCase):
    def test_a_patch_told_on_changes_nothing(self):
        patch = small_patch()
        engine = Engine(patch)
        patch.track("late")
        patch.bus("other")
        patch.send("a", "main", ["gain:9/1"])
        patch.out("other", 5)
        awaited = fed_all(Engine(small_patch()), {"a": [4, 2], "b": [3, 0]})
        self.assertEqual(fed_all(engine, {"a": [4, 2], "b": [3, 0]}), awaited)
        with self.assertRaises(NoBus):
            engine.cuts_of("other")

    def test_two_engines_of_one_patch(self):
        patch = small_patch()
        one = Engine(patch)
        other = Engine(patch)
        first = fed_all(one, {"a": [4], "b": [100]})
        fed_all(one, {"a": [7], "b": [100]})
        self.assertEqual(other.cuts_of("main"), 0)
        self.assertEqual(fed_all(other, {"a": [4], "b": [100]}), first)

    def test_an_engine_leaves_the_patch_as_it_was(self):
        patch = small_patch()
        Engine(patch).feed({"a": [1], "b": [2]})
        other = small_patch()
        self.assertEqual((patch.sends(), patch.outs(), patch.order()), (other.sends(), other.outs(), other.order()))


class Refused(unittest.TestCase):
    WRONG = [
        None, True, 0, "", "ab", [], ["a", "b"], [[1], [2]], (), ([1], [2]), [("a", [1]), ("b", [2])],
        {}, {"a": [1]}, {"b": [1]}, {"a": [1], "c": [1]}, {"a": [1], "b": [1], "c": [1]}, {"a": [1], "b": [1], None: [1]},
        {"a": [1], "b": [1], "main": [1]}, {"a": [1], "B": [1]}, {"a": [1], None: [1]}, {"a": [], "b": [], "": []},
        {"a": [1], "b": []}, {"a": [], "b": [1]}, {"a": [1, 2], "b": [1]}, {"a": [1], "b": [1, 2]},
        {"a": [1], "b": None}, {"a": [1], "b": (1,)}, {"a": (1,), "b": [1]}, {"a": [1], "b": "1"}, {"a": "", "b": []},
        {"a": [1], "b": {0: 1}}, {"a": [1], "b": 1}, {"a": {}, "b": []}, {"a": None, "b": None}, {"a": (), "b": ()},
    ] + [{"a": [1, 0], "b": [2, wrong]} for wrong in
         (True, False, None, "1", "", 1.0, [1], (1,), {}, MOST + 1, -MOST - 1, 10 ** 1999)]

    def test_no_blocks(self):
        for wrong in self.WRONG:
            engine = Engine(small_patch())
            with self.subTest(wrong=wrong):
                with self.assertRaises(NoBlock):
                    engine.feed(wrong)

    def test_a_wrong_tone_at_each_place(self):
        for track in ("a", "b"):
            for at in range(3):
                for wrong in (True, None, "0", MOST + 1, -MOST - 1):
                    blocks = {"a": [1, 2, 3], "b": [4, 5, 6]}
                    blocks[track][at] = wrong
                    with self.assertRaises(NoBlock):
                        Engine(small_patch()).feed(blocks)

    def test_a_patch_without_tracks_takes_the_empty_dict_alone(self):
        patch = Patch()
        patch.bus("b")
        for wrong in (None, [], (), "", 0, False, {"b": []}, {"a": []}, {"a": [1]}, {None: []}):
            with self.subTest(wrong=wrong):
                with self.assertRaises(NoBlock):
                    Engine(patch).feed(wrong)

    def test_behind_a_refusal_all_goes_on(self):
        plain = Engine(small_patch())
        engine = Engine(small_patch())
        for blocks in ({"a": [4, 1], "b": [30, 1]}, {"a": [5], "b": [1]}, {"a": [], "b": []}, {"a": [9], "b": [-70]}):
            for wrong in self.WRONG:
                before = copy.deepcopy(wrong)
                with self.assertRaises(NoBlock):
                    engine.feed(wrong)
                self.assertEqual(wrong, before)
            self.assertEqual(fed_all(engine, blocks), fed_all(plain, blocks))
            self.assertEqual(engine.cuts_of("main"), plain.cuts_of("main"))

    def test_cuts_of_what_is_no_outlet(self):
        patch = small_patch()
        patch.bus("dull")
        engine = Engine(patch)
        for name in ("dull", "a", "b", "other", "", "MAIN", None, True, 0, [], ["main"], {}, ("main",), 1.5):
            with self.subTest(name=name):
                with self.assertRaises(NoBus):
                    engine.cuts_of(name)

    def test_cuts_of_an_outlet(self):
        engine = Engine(small_patch())
        self.assertEqual([engine.cuts_of(name) for name in ("main", "fx", "mute")], [0, 0, 0])
        engine.feed({"a": [0, 0, 0], "b": [9, 30, -9]})
        self.assertEqual(engine.cuts_of("main"), 3)
        engine.feed({"a": [0], "b": [0]})
        self.assertEqual(engine.cuts_of("main"), 3)
        engine.feed({"a": [0], "b": [9]})
        self.assertEqual([engine.cuts_of(name) for name in ("main", "fx", "mute")], [4, 0, 0])


class AskersOwn(unittest.TestCase):
    def test_blocks_handed_in_and_rows_told(self):
        for seed in range(10):
            patch = some_patch(seed)
            plain = Engine(patch)
            engine = Engine(patch)
            for turn in range(4):
                blocks = some_rows(patch, seed + turn, turn * 2)
                handed = copy.deepcopy(blocks)
                told = engine.feed(handed)
                self.assertEqual(handed, blocks)
                self.assertEqual(told, plain.feed(blocks))
                kept = copy.deepcopy(told)
                spoil(handed)
                self.assertEqual(told, kept)
                engine.cuts_of(patch.outs()[0][0]) if patch.outs() else None
                spoil(told)

    def test_what_was_told_stays_when_more_is_fed(self):
        engine = Engine(small_patch())
        told = engine.feed({"a": [1, 2], "b": [3, 4]})
        kept = copy.deepcopy(told)
        engine.feed({"a": [5, 6], "b": [7, 8]})
        self.assertEqual(told, kept)

    def test_rows_told_together_share_no_list(self):
        flows, told = Engine(small_patch()).feed({"a": [1, 2], "b": [3, 4]})
        lists = [row[0] for row in flows.values()] + list(told.values())
        self.assertEqual(len({id(one) for one in lists}), len(lists))


if __name__ == "__main__":
    unittest.main()
