"""The promise over the whole program [4]."""

import random
import unittest
from fractions import Fraction

from helpers import ALL_KINDS, PLAIN, WITHOUT_HALLS, cut, cuttings, settled, some_patch, some_rows, tones_of
from mixbench.benches import Bench
from mixbench.engines import Engine
from mixbench.measures import later_patch, reach_of, weight_of
from mixbench.patches import Patch
from mixbench.texts import patch_of, text_of

SEEDS = range(40)
LENGTH = 24


def fed(patch, parts):
    """The flows and settled rows of blocks, joined, and the counts of what was cut."""
    engine = Engine(patch)
    flows = {name: [] for name in patch.tracks() + patch.buses()}
    outs = {bus: [] for bus, greatest in patch.outs()}
    for blocks in parts:
        told, rows = engine.feed(blocks)
        for name in flows:
            flows[name] += tones_of(told[name])
        for bus in outs:
            outs[bus] += rows[bus]
    return (flows, outs, {bus: engine.cuts_of(bus) for bus in outs})


def cut_rows(rows, lengths):
    blocks = {track: cut(row, lengths) for track, row in rows.items()}
    return [{track: blocks[track][at] for track in rows} for at in range(len(lengths) + 1)]


def mixed(a, rows, b, others):
    return {name: [a * x + b * y for x, y in zip(row, others[name])] for name, row in rows.items()}


class Whole(unittest.TestCase):
    def test_in_whatever_cuts(self):
        for seed in SEEDS:
            patch = some_patch(seed)
            rows = some_rows(patch, seed, LENGTH)
            at_once = fed(patch, [rows])
            for lengths in cuttings(LENGTH, seed):
                self.assertEqual(fed(patch, cut_rows(rows, lengths)), at_once)

    def test_linear_without_halls(self):
        for seed in SEEDS:
            patch = some_patch(seed, WITHOUT_HALLS)
            rows = some_rows(patch, seed, LENGTH)
            others = some_rows(patch, seed + 1000, LENGTH)
            for a, b in ((1, 1), (3, -5), (0, 7), (-1, 0)):
                told = fed(patch, [mixed(a, rows, b, others)])[0]
                self.assertEqual(told, mixed(a, fed(patch, [rows])[0], b, fed(patch, [others])[0]))

    def test_the_sum_over_single_tones_without_swells(self):
        for seed in SEEDS:
            patch = some_patch(seed, PLAIN)
            rows = some_rows(patch, seed, LENGTH)
            awaited = {name: [Fraction(0)] * LENGTH for name in patch.tracks() + patch.buses()}
            for track in patch.tracks():
                single = {name: [0] * LENGTH for name in patch.tracks()}
                single[track][0] = 1
                for name, flow in fed(patch, [single])[0].items():
                    for at, tone in enumerate(rows[track]):
                        for place in range(at, LENGTH):
                            awaited[name][place] += tone * flow[place - at]
            self.assertEqual(fed(patch, [rows])[0], awaited)

    def test_noughts_ahead_in_the_patch_made_later(self):
        for seed in SEEDS:
            patch = some_patch(seed)
            rows = some_rows(patch, seed, LENGTH)
            flows, outs, cuts = fed(patch, [rows])
            for n in (0, 1, 2, 30):
                told = fed(later_patch(patch, n), [{track: [0] * n + row for track, row in rows.items()}])
                self.assertEqual(told[0], {name: [0] * n + flow for name, flow in flows.items()})
                self.assertEqual(told[1], {bus: [0] * n + row for bus, row in outs.items()})
                self.assertEqual(told[2], cuts)

    def test_no_flow_beyond_its_weight(self):
        for seed in SEEDS:
            patch = some_patch(seed)
            for most in (1, 7, 10 ** 12):
                chance = random.Random(seed)
                rows = {track: [chance.choice([-most, most]) for at in range(LENGTH)] for track in patch.tracks()}
                for name, flow in fed(patch, [rows])[0].items():
                    bound = Fraction(*weight_of(patch, name)) * most
                    self.assertTrue(all(abs(tone) <= bound for tone in flow))

    def test_nought_behind_the_reach(self):
        for seed in SEEDS:
            patch = some_patch(seed, ALL_KINDS if seed % 2 else WITHOUT_HALLS)
            rows = some_rows(patch, seed, 5)
            reaches = {name: reach_of(patch, name) for name in patch.tracks() + patch.buses()}
            most = max([reach for reach in reaches.values() if reach is not None])
            rows = {track: row + [0] * (most + 20) for track, row in rows.items()}
            for name, flow in fed(patch, [rows])[0].items():
                if reaches[name] is not None:
                    behind = flow[5 + reaches[name]:]
                    self.assertEqual(behind, [0] * len(behind))
                    self.assertGreaterEqual(len(behind), 20)

    def test_outlets_that_cut_none(self):
        for seed in SEEDS:
            patch = some_patch(seed, greatest=10 ** 12)
            flows, outs, cuts = fed(patch, [some_rows(patch, seed, LENGTH)])
            for bus, row in outs.items():
                self.assertEqual(cuts[bus], 0)
                self.assertEqual(row, settled(flows[bus], 10 ** 12)[0])
                for at in range(LENGTH + 1):
                    self.assertLessEqual(abs(sum(row[:at]) - sum(flows[bus][:at])), Fraction(1, 2))

    def test_a_patch_told_in_another_order(self):
        for seed in SEEDS:
            patch = some_patch(seed)
            rows = some_rows(patch, seed, LENGTH)
            chance = random.Random(seed)
            lines = [chance.sample(told, len(told)) for told in
                     (patch.tracks(), patch.buses(), patch.sends(), patch.outs())]
            other = Patch()
            for bus in lines[1]:
                other.bus(bus)
            for bus, greatest in lines[3]:
                other.out(bus, greatest)
            for track in lines[0]:
                other.track(track)
            for source, bus, words in lines[2]:
                other.send(source, bus, words)
            self.assertEqual(fed(other, [rows]), fed(patch, [rows]))

    def test_a_patch_read_from_its_own_text(self):
        for seed in SEEDS:
            patch = some_patch(seed)
            rows = some_rows(patch, seed, LENGTH)
            self.assertEqual(fed(patch_of(text_of(patch)), [rows]), fed(patch, [rows]))

    def test_a_patch_laid_back_by_undoing(self):
        for seed in SEEDS:
            patch = some_patch(seed)
            rows = some_rows(patch, seed, LENGTH)
            bench = Bench()
            for line in text_of(patch).split("\n"):
                bench.say(line)
            for track, row in rows.items():
                bench.say(f"tones {track} " + " ".join(str(tone) for tone in row))
            deeds = ["track new", "bus extra", "send new extra gain:1/3"]
            deeds += [f"send new {bus} gain:2/3" for bus in patch.buses()] + ["tones new 5 6", "out extra 4"]
            for deed in deeds:
                bench.say(deed)
            for deed in deeds:
                bench.say("undo")
            self.assertEqual(bench.say("show"), text_of(patch))
            for bus, row in fed(patch, [rows])[1].items():
                self.assertEqual(bench.say("mix " + bus), " ".join(str(tone) for tone in row))


if __name__ == "__main__":
    unittest.main()
