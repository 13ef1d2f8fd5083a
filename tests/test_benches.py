"""The bench [30] to [32]."""

import random
import unittest

from helpers import ALL_KINDS, NO_TEXTS, flows_of, settled, some_patch, some_word
from mixbench.benches import Bench
from mixbench.errors import MixError, NoBus, NoDeed, NoName, NoNumber, NoPart, NoRow, Ring, Twice
from mixbench.texts import patch_of, text_of

SMALL = ["track a", "track b", "bus main", "bus fx", "bus dry", "send a fx delay:2 gain:1/2", "send fx main",
         "send b main", "out main 10", "out fx 1000", "tones a 4 6 -8", "tones b 1"]


def told(*rows):
    bench = Bench()
    for row in rows:
        assert bench.say(row) == "ok", row
    return bench


def small():
    return told(*SMALL)


def seen(bench):
    """All that a bench tells of itself without being changed."""
    answers = [bench.say("show"), bench.say("order")]
    patch = patch_of(answers[0])
    for bus, greatest in patch.outs():
        answers += [bench.say("mix " + bus), bench.say("cuts " + bus)]
    for name in patch.tracks() + patch.buses():
        answers += [bench.say("reach " + name), bench.say("weight " + name)]
    return answers


def played(bench, lengths):
    """What is played in so many tones at a time, joined by outlet."""
    joined = {}
    for length in lengths:
        answer = bench.say(f"play {length}")
        for part in answer.split("; "):
            words = part.split(" ")
            joined.setdefault(words[0], []).extend(words[1:])
    return joined


class Case(unittest.TestCase):
    def refused(self, bench, refusal, *rows):
        for row in rows:
            before = seen(bench)
            with self.subTest(row=row):
                with self.assertRaises(MixError) as caught:
                    bench.say(row)
                self.assertIs(type(caught.exception), refusal)
            self.assertEqual(seen(bench), before)


class Answers(Case):
    def test_a_new_bench(self):
        bench = Bench()
        self.assertEqual(bench.say("show"), "")
        self.assertEqual(bench.say("order"), "")
        self.assertEqual(bench.say("play 1"), "")

    def test_deeds_are_answered_ok(self):
        bench = Bench()
        for row in SMALL:
            self.assertEqual(bench.say(row), "ok")
        self.assertEqual(bench.say("undo"), "ok")
        self.assertEqual(bench.say("redo"), "ok")

    def test_show_and_order(self):
        self.assertEqual(small().say("show"), "\n".join(SMALL[:10]))
        self.assertEqual(small().say("order"), "fx main dry")
        mixed = told("bus main", "out main 5", "track a", "send a main")
        self.assertEqual(mixed.say("show"), "track a\nbus main\nsend a main\nout main 5")

    def test_reach_and_weight(self):
        bench = small()
        self.assertEqual([bench.say("reach " + name) for name in ("a", "fx", "main", "dry")], ["0", "2", "2", "0"])
        self.assertEqual([bench.say("weight " + name) for name in ("a", "fx", "main", "dry")],
                         ["1/1", "1/2", "3/2", "0/1"])
        bench.say("send a main hall:-1/2:4")
        self.assertEqual((bench.say("reach main"), bench.say("weight main")), ("endless", "7/2"))
        self.assertEqual(bench.say("reach fx"), "2")

    def test_mix_and_cuts(self):
        bench = small()
        self.assertEqual(bench.say("mix main"), "1 0 2")
        self.assertEqual(bench.say("mix fx"), "0 0 2")
        self.assertEqual((bench.say("cuts main"), bench.say("cuts fx")), ("0", "0"))
        bench.say("tones b 11 -9 -14 10")
        self.assertEqual(bench.say("mix main"), "1 10 -7 -10 6")
        self.assertEqual((bench.say("cuts main"), bench.say("cuts fx")), ("2", "0"))
        self.assertEqual(bench.say("mix fx"), "0 0 2 3 -4")

    def test_rests_are_carried_on_in_a_mix(self):
        bench = told("track a", "bus b", "send a b gain:1/3", "out b 5", "tones a 1 1 1 -1 -1 -1")
        self.assertEqual(bench.say("mix b"), "0 1 0 0 -1 0")

    def test_mix_without_tones_and_without_tracks(self):
        bench = told("bus b", "out b 5")
        self.assertEqual((bench.say("mix b"), bench.say("cuts b")), ("", "0"))
        bench.say("track a")
        self.assertEqual((bench.say("mix b"), bench.say("cuts b")), ("", "0"))
        bench.say("tones a 7")
        self.assertEqual(bench.say("mix b"), "0")

    def test_tones_are_put_behind(self):
        bench = told("track a", "bus b", "send a b", "out b 1000000000000", "tones a 1")
        bench.say("tones a 2 0 -3")
        bench.say("tones a -1000000000000 1000000000000")
        self.assertEqual(bench.say("mix b"), "1 2 0 -3 -1000000000000 1000000000000")

    def test_mixes_against_the_sums(self):
        for seed in range(30):
            chance = random.Random(seed)
            patch = some_patch(seed)
            bench = told(*text_of(patch).split("\n"))
            rows = {track: [chance.randint(-99, 99) for at in range(chance.randint(0, 12))] for track in patch.tracks()}
            for track, row in rows.items():
                if row:
                    bench.say(f"tones {track} " + " ".join(map(str, row)))
            most = max(len(row) for row in rows.values())
            flows = flows_of(patch, {track: row + [0] * (most - len(row)) for track, row in rows.items()})
            for bus, greatest in patch.outs():
                want = settled(flows[bus], greatest)
                self.assertEqual(bench.say("mix " + bus), " ".join(map(str, want[0])))
                self.assertEqual(bench.say("cuts " + bus), str(want[2]))

    def test_two_benches_beside_each_other(self):
        one = small()
        other = Bench()
        self.assertEqual(other.say("show"), "")
        other.say("track a")
        other.say("bus main")
        other.say("out main 3")
        one.say("play 2")
        other.say("undo")
        self.assertEqual(one.say("mix main"), "1 0 2")
        self.assertEqual(one.say("play 1"), "main 2; fx 2")
        self.assertEqual(other.say("show"), "track a\nbus main")


class Refused(Case):
    def test_what_is_no_text(self):
        for bench in (Bench(), small()):
            self.refused(bench, NoRow, *NO_TEXTS)

    def test_rows_that_are_not_listed(self):
        self.refused(small(), NoRow, "", " ", "x", "Show", "SHOW", "tone a 1", "help", "quit", "show\n", "undo\n", "\nshow",
                     " show", " track d", " tones a 1", "mixmain", "trackd", "track\td")

    def test_too_few_words(self):
        self.refused(small(), NoRow, "track", "bus", "send", "send a", "out", "out dry", "tones", "tones a", "tones nix",
                     "mix", "cuts", "play", "reach", "weight")

    def test_too_many_words(self):
        self.refused(small(), NoRow, "track d e", "track d ", "bus d e", "out dry 5 6", "out dry 5 ", "undo 1", "undo ",
                     "redo 1", "redo ", "mix main fx", "mix main ", "mix  main", "cuts main 1", "cuts main ", "play 1 2",
                     "play 1 ", "play  1", "reach a b", "reach a ", "weight a b", "weight a ", "order a", "order ",
                     "show a", "show ", "track d\nbus e")

    def test_names(self):
        self.refused(small(), NoName, "track ", "bus ", "track D", "bus abcdefghi", "track d\n", "track d\nbus")
        self.refused(small(), Twice, "track a", "track main", "bus a", "bus main", "out main 5", "out main x")

    def test_sends(self):
        self.refused(small(), NoBus, "send nix main", "send a nix", "send a b", "send  a", "send a ", "send a  main",
                     "send nix main x")
        self.refused(small(), NoPart, "send a main ", "send a main x", "send a main  gain:1/2", "send a main gain:1/2 ",
                     "send main fx x", "send a main" + " delay:1" * 9)
        self.refused(small(), Ring, "send main fx", "send main main", "send main fx gain:1/2")

    def test_outlets(self):
        self.refused(small(), NoBus, "out a 5", "out nix 5", "out nix x", "out  5")
        self.refused(small(), NoNumber, "out dry 0", "out dry 05", "out dry -5", "out dry x", "out dry ",
                     "out dry 1000000000001")

    def test_tones_that_are_none(self):
        for wrong in ("", "x", "01", "00", "-0", "-01", "+1", "--1", "-", "1.", "1/1", "1\n", "1000000000001",
                      "-1000000000001", "9" * 5000, "-" + "9" * 5000, "0000000000000000001", "\u0661", "\u00b2", "1_0",
                      "\u22121", "- 1"):
            self.refused(small(), NoNumber, "tones a " + wrong, f"tones a 1 {wrong}", f"tones a {wrong} 1")
        self.refused(small(), NoNumber, "tones a 1  2", "tones a  1", "tones a 1 2 ")

    def test_tones_of_no_track(self):
        self.refused(small(), NoBus, "tones nix 1", "tones main 1", "tones  1", "tones A 1", "tones nix x", "tones main 01",
                     "tones nix ", "tones fx 1000000000001")

    def test_names_that_are_asked_for(self):
        self.refused(small(), NoBus, "mix nix", "mix a", "mix dry", "mix ", "mix MAIN", "cuts nix", "cuts a", "cuts dry",
                     "cuts ", "reach nix", "reach ", "reach A", "weight nix", "weight ", "weight main\n")

    def test_plays(self):
        self.refused(small(), NoNumber, "play 0", "play 1001", "play 01", "play 00", "play 0001", "play -1", "play +1",
                     "play x", "play ", "play 1.", "play 1\n", "play " + "9" * 5000, "play 1000000000000")
        bench = small()
        for many in (1, 1000):
            self.assertEqual(len(bench.say(f"play {many}").split("; ")[0].split(" ")), 1 + many)

    def test_a_refused_row_leaves_what_can_be_undone_and_done_again(self):
        bench = small()
        bench.say("undo")
        bench.say("play 2")
        for row in ("track a", "tones a x", "tones nix 1", "send main fx", "x", "play 0", "mix nix", "out main 5", "redo x"):
            with self.assertRaises(MixError):
                bench.say(row)
        self.assertEqual(bench.say("play 1"), "main 2; fx 2")
        bench.say("redo")
        self.assertEqual(seen(bench), seen(small()))
        with self.assertRaises(NoDeed):
            bench.say("redo")
        for row in SMALL:
            bench.say("undo")
        self.assertEqual(bench.say("show"), "")


class Undone(Case):
    def test_where_there_is_none(self):
        self.refused(Bench(), NoDeed, "undo", "redo")
        self.refused(small(), NoDeed, "redo")

    def test_every_sort_of_deed(self):
        bench = Bench()
        states = [seen(bench)]
        for row in SMALL:
            bench.say(row)
            states.append(seen(bench))
        for state in states[-2::-1]:
            bench.say("undo")
            self.assertEqual(seen(bench), state)
        self.refused(bench, NoDeed, "undo")
        for state in states[1:]:
            bench.say("redo")
            self.assertEqual(seen(bench), state)
        self.refused(bench, NoDeed, "redo")

    def test_undo_and_redo_in_turn(self):
        bench = small()
        for turn in range(3):
            bench.say("undo")
            self.assertEqual(bench.say("mix main"), "0 0 2")
            bench.say("redo")
            self.assertEqual(bench.say("mix main"), "1 0 2")

    def test_a_new_deed_behind_an_undo(self):
        bench = small()
        bench.say("undo")
        bench.say("undo")
        bench.say("tones a 1")
        self.refused(bench, NoDeed, "redo")
        bench.say("undo")
        bench.say("redo")
        self.assertEqual(bench.say("mix main"), "0")
        self.refused(bench, NoDeed, "redo")
        bench.say("undo")
        bench.say("undo")
        self.assertEqual(bench.say("show"), "\n".join(SMALL[:9]))

    def test_what_only_asks_is_no_deed(self):
        bench = small()
        bench.say("undo")
        for row in ("mix main", "cuts main", "play 3", "reach a", "weight a", "order", "show"):
            bench.say(row)
        bench.say("redo")
        self.assertEqual(seen(bench), seen(small()))

    def test_a_track_told_again_has_no_tones(self):
        bench = told("bus m", "out m 9", "track a", "send a m", "tones a 1 2")
        for turn in range(3):
            bench.say("undo")
        bench.say("track a")
        bench.say("send a m")
        self.assertEqual(bench.say("mix m"), "")
        bench.say("tones a 3")
        self.assertEqual(bench.say("mix m"), "3")

    def test_names_are_free_again(self):
        bench = told("track a")
        bench.say("undo")
        self.assertEqual(bench.say("bus a"), "ok")
        self.assertEqual(bench.say("show"), "bus a")

    def test_in_whatever_order(self):
        """A bench beside plain lists of deeds, of which the ones that stand are told to a new bench."""
        for seed in range(12):
            chance = random.Random(seed)
            bench = Bench()
            deeds, undone = [], []
            for turn in range(40):
                row = self.some_row(chance)
                try:
                    bench.say(row)
                except MixError:
                    self.assertTrue(row not in ("undo", "redo") or not (deeds if row == "undo" else undone))
                else:
                    if row == "undo":
                        undone.append(deeds.pop())
                    elif row == "redo":
                        deeds.append(undone.pop())
                    else:
                        deeds, undone = deeds + [row], []
                self.assertEqual(seen(bench), seen(told(*deeds)))

    def some_row(self, chance):
        name, other = chance.choice("abcd"), chance.choice("wxyz")
        return chance.choice([
            "undo", "undo", "redo", "redo", "track " + name, "bus " + other, "out " + other + " 50", "track " + other,
            "send " + name + " " + other + " " + some_word(chance, ALL_KINDS),
            "send " + chance.choice("wxyz") + " " + other + " " + some_word(chance, ALL_KINDS),
            "tones " + name + " " + str(chance.randint(-99, 99)) + " " + str(chance.randint(-99, 99)),
        ])


class Played(Case):
    def test_written_out(self):
        bench = small()
        self.assertEqual(bench.say("play 2"), "main 1 0; fx 0 0")
        self.assertEqual(bench.say("play 1"), "main 2; fx 2")
        self.assertEqual(bench.say("play 4"), "main 3 -4 0 0; fx 3 -4 0 0")

    def test_without_outlets(self):
        bench = told("track a", "tones a 1 2", "bus b", "send a b")
        self.assertEqual(bench.say("play 5"), "")

    def test_a_patch_without_tracks(self):
        bench = told("bus b", "bus c", "send b c hall:1/2:1", "out c 5", "out b 5")
        self.assertEqual(bench.say("play 3"), "c 0 0 0; b 0 0 0")
        self.assertEqual(bench.say("play 1"), "c 0; b 0")

    def test_outlets_in_the_order_told(self):
        bench = told("track t", "bus a", "bus b", "bus c", "send t b", "out c 1", "out a 1", "out b 1", "tones t 1")
        self.assertEqual(bench.say("play 1"), "c 0; a 0; b 1")

    def test_plays_joined_are_the_mix_and_what_comes_behind(self):
        for seed in range(25):
            chance = random.Random(seed)
            patch = some_patch(seed)
            bench = told(*text_of(patch).split("\n"))
            for track in patch.tracks():
                row = " ".join(str(chance.randint(-99, 99)) for at in range(chance.randint(1, 9)))
                bench.say(f"tones {track} {row}")
            cuts = [chance.randint(1, 6) for at in range(6)]
            joined = played(bench, cuts)
            for bus, greatest in patch.outs():
                mix = bench.say("mix " + bus).split(" ")
                most = min(len(mix), sum(cuts))
                self.assertEqual(joined[bus][:most], mix[:most])
            bench.say("track zz")
            bench.say("tones zz" + " 0" * sum(cuts))
            for bus, greatest in patch.outs():
                self.assertEqual(joined[bus], bench.say("mix " + bus).split(" ")[:sum(cuts)])

    def test_begun_anew_behind_each_deed(self):
        bench = small()
        whole = bench.say("play 5")
        for deed, back in (("track x", "undo"), ("bus x", "undo"), ("send a dry", "undo"), ("out dry 5", "undo"),
                           ("tones a 7", "undo")):
            bench.say("play 2")
            bench.say(deed)
            self.assertTrue(bench.say("play 3").startswith("main 1 0 2; fx 0 0 2"))
            bench.say(back)
            self.assertEqual(bench.say("play 5"), whole)
            bench.say("redo")
            self.assertTrue(bench.say("play 3").startswith("main 1 0 2; fx 0 0 2"))
            bench.say("undo")

    def test_begun_anew_by_no_other_row(self):
        bench = small()
        bench.say("play 2")
        for row in ("mix main", "cuts main", "reach a", "weight a", "order", "show"):
            bench.say(row)
        for row in ("mix nix", "track a", "tones a x", "play 0", "x", "redo", None):
            with self.assertRaises(MixError):
                bench.say(row)
        self.assertEqual(bench.say("play 1"), "main 2; fx 2")

    def test_playing_changes_no_mix(self):
        bench = small()
        before = seen(bench)
        bench.say("play 1000")
        self.assertEqual(seen(bench), before)

    def test_cuts_are_those_of_the_mix_alone(self):
        bench = told("track a", "bus b", "send a b delay:2", "out b 1", "tones a 5 0 5")
        self.assertEqual(bench.say("play 9"), "b 0 0 1 0 1 0 0 0 0")
        self.assertEqual(bench.say("cuts b"), "1")


if __name__ == "__main__":
    unittest.main()
