"""The bench: it is told rows, keeps a patch and tones, and answers with texts."""

from mixbench.engines import MOST_TONE, Engine
from mixbench.errors import NoBus, NoDeed, NoNumber, NoRow
from mixbench.measures import greatest_of, reach_of, weight_of
from mixbench.patches import Patch
from mixbench.ratios import fraction_text
from mixbench.texts import patch_of, tell_line, text_of
from mixbench.wholes import whole_of

PATCH_DEEDS = ("track", "bus", "send", "out")
# How many words stand behind the first one.
BEHIND = {
    "undo": 0,
    "redo": 0,
    "mix": 1,
    "cuts": 1,
    "play": 1,
    "reach": 1,
    "weight": 1,
    "order": 0,
    "show": 0,
}
MOST_PLAYED = 1000


def tone_of(word):
    is_below = word.startswith("-")
    size = whole_of(word[1:] if is_below else word)
    if size is None or size > MOST_TONE or word == "-0":
        raise NoNumber("a tone is a whole number of at most 1000000000000 either way")
    return -size if is_below else size


def many_of(word):
    many = whole_of(word)
    if many is None or many < 1 or many > MOST_PLAYED:
        raise NoNumber("from 1 to 1000 tones are played")
    return many


def tones_text(tones):
    return " ".join([str(tone) for tone in tones])


def played_text(name, tones, many):
    # A patch without tracks has no tones at all, but noughts are played of it.
    heard = tones_text(tones + [0] * (many - len(tones)))
    return f"{name} {heard}"


def reach_text(reach):
    return "endless" if reach is None else str(reach)


class Bench:
    def __init__(self):
        # Neither the patch nor the rows are changed once they are here: each deed makes new ones,
        # so what stood ahead of it can be kept for undoing as it is.
        self.patch = Patch()
        self.rows = {}
        self.done = []
        self.undone = []
        self.player = None
        self.played = 0

    def say(self, row):
        if not isinstance(row, str):
            raise NoRow("a row is a text")
        words = row.split(" ")
        if words[0] in PATCH_DEEDS:
            return self.change_patch(row)
        if words[0] == "tones" and len(words) > 2:
            return self.add_tones(words[1], words[2:])
        if BEHIND.get(words[0]) == len(words) - 1:
            return self.answer(words)
        raise NoRow("no such row is listed")

    def answer(self, words):
        if words[0] == "undo":
            return self.undo()
        if words[0] == "redo":
            return self.redo()
        if words[0] == "mix":
            return tones_text(self.mixed(words[1])[0])
        if words[0] == "cuts":
            return str(self.mixed(words[1])[1])
        if words[0] == "play":
            return self.play(many_of(words[1]))
        if words[0] == "reach":
            return reach_text(reach_of(self.patch, words[1]))
        if words[0] == "weight":
            return fraction_text(weight_of(self.patch, words[1]))
        if words[0] == "order":
            return " ".join(self.patch.order())
        return text_of(self.patch)

    def change_patch(self, line):
        patch = patch_of(text_of(self.patch))
        tell_line(patch, line)
        rows = {}
        for track in patch.tracks():
            rows[track] = self.rows.get(track, [])
        return self.do(patch, rows)

    def add_tones(self, name, words):
        if name not in self.rows:
            raise NoBus("no track stands by this name")
        rows = dict(self.rows)
        rows[name] = self.rows[name] + [tone_of(word) for word in words]
        return self.do(self.patch, rows)

    def do(self, patch, rows):
        self.done.append((self.patch, self.rows))
        self.undone = []
        return self.stand(patch, rows)

    def undo(self):
        if len(self.done) == 0:
            raise NoDeed("no deed is there to undo")
        self.undone.append((self.patch, self.rows))
        before = self.done.pop()
        return self.stand(before[0], before[1])

    def redo(self):
        if len(self.undone) == 0:
            raise NoDeed("no deed is there to do again")
        self.done.append((self.patch, self.rows))
        behind = self.undone.pop()
        return self.stand(behind[0], behind[1])

    def stand(self, patch, rows):
        self.patch = patch
        self.rows = rows
        # What is played begins anew.
        self.player = None
        self.played = 0
        return "ok"

    def blocks_from(self, start, length):
        blocks = {}
        for name, row in self.rows.items():
            block = row[start:start + length]
            blocks[name] = block + [0] * (length - len(block))
        return blocks

    def mixed(self, name):
        """The tones of an outlet, and how many of them were cut."""
        # Asked only for its refusal, ahead of all reckoning.
        greatest_of(self.patch, name)
        engine = Engine(self.patch)
        length = max([len(row) for row in self.rows.values()], default=0)
        settled = engine.feed(self.blocks_from(0, length))[1]
        return (settled[name], engine.cuts_of(name))

    def play(self, many):
        if self.player is None:
            self.player = Engine(self.patch)
        settled = self.player.feed(self.blocks_from(self.played, many))[1]
        self.played += many
        return "; ".join([played_text(out[0], settled[out[0]], many) for out in self.patch.outs()])
