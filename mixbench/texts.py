"""Texts of patches, told and read."""

from mixbench.errors import NoRow
from mixbench.patches import Patch
from mixbench.wholes import whole_of


def send_line(send):
    return " ".join(["send", send[0], send[1]] + send[2])


def out_line(out):
    bus = out[0]
    greatest = out[1]
    return f"out {bus} {greatest}"


def text_of(patch):
    lines = [f"track {name}" for name in patch.tracks()]
    lines = lines + [f"bus {name}" for name in patch.buses()]
    lines = lines + [send_line(send) for send in patch.sends()]
    lines = lines + [out_line(out) for out in patch.outs()]
    return "\n".join(lines)


def tell_line(patch, line):
    words = line.split(" ")
    behind = len(words) - 1
    if words[0] == "track" and behind == 1:
        patch.track(words[1])
    elif words[0] == "bus" and behind == 1:
        patch.bus(words[1])
    elif words[0] == "send" and behind >= 2:
        patch.send(words[1], words[2], words[3:])
    elif words[0] == "out" and behind == 2:
        # What is written by no figures is None here, and so refused by the patch, behind what goes ahead of it.
        patch.out(words[1], whole_of(words[2]))
    else:
        raise NoRow("a line is a track, a bus, a send or an out, with as many words as it needs")


def patch_of(text):
    if not isinstance(text, str):
        raise NoRow("the text of a patch is a text")
    patch = Patch()
    # The text without signs has no line, though splitting it gives one.
    if text == "":
        return patch
    for line in text.split("\n"):
        tell_line(patch, line)
    return patch
