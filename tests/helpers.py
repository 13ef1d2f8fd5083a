"""What several tests share: rows, cuts of rows, and the sums that the document tells, reckoned by another way."""

import copy
import random
from fractions import Fraction
from math import floor, trunc

from mixbench.patches import Patch

NO_WHOLE_NUMBERS = [None, True, False, "1", "", [], [1], (1,), {}, 1.0]
NO_TEXTS = [None, True, False, 0, 1, 1.5, [], ["gain:1/2"], (), ("track a",), {}, b"gain:1/2"]


def pair(value):
    return (value.numerator, value.denominator)


def tones_of(exact_row):
    """The tones of an exact row as fractions."""
    return [Fraction(top, exact_row[1]) for top in exact_row[0]]


def some_row(seed, length, most=1000):
    chance = random.Random(seed)
    return [chance.randint(-most, most) for at in range(length)]


def cut(row, lengths):
    blocks = []
    for length in lengths:
        blocks.append(row[:length])
        row = row[length:]
    return blocks + [row]


def cuttings(length, seed=0):
    """Ways to cut a row of this length, lengths of 0 among them."""
    chance = random.Random(seed)
    ways = [[], [0], [1], [0, 0, 1, 0], [length, 0], [1] * length, [0, 1] * length, [length - 1] if length else []]
    for way in range(6):
        ways.append([chance.randint(0, 1 + length // 3) for at in range(8)])
    return ways


def ahead(row, at, many):
    return row[at - many] if at >= many else Fraction(0)


def gained(row, gain):
    return [gain * tone for tone in row]


def delayed(row, many):
    return [ahead(row, at, many) for at in range(len(row))]


def echoed(row, gain, many, turns):
    return [sum(gain ** turn * ahead(row, at, turn * many) for turn in range(turns + 1)) for at in range(len(row))]


def backed(row, gain, many):
    return [row[at] - gain * ahead(row, at, many) for at in range(len(row))]


def halled(row, gain, many):
    out = []
    for at in range(len(row)):
        out.append(row[at] + trunc(gain * ahead(out, at, many)))
    return out


def swell_at(corners, at):
    if at <= corners[0][0]:
        return corners[0][1]
    for (left, low), (right, high) in zip(corners, corners[1:]):
        if left <= at <= right:
            return low + (high - low) * Fraction(at - left, right - left)
    return corners[-1][1]


def swelled(row, corners):
    return [swell_at(corners, at) * tone for at, tone in enumerate(row)]


def settled(tones, greatest):
    """What a settler tells of exact tones, the rest, and how many were cut."""
    rest = Fraction(0)
    told = []
    for tone in tones:
        value = tone + rest
        told.append(floor(value + Fraction(1, 2)))
        rest = value - told[-1]
    cuts = len([tone for tone in told if abs(tone) > greatest])
    return ([max(-greatest, min(greatest, tone)) for tone in told], rest, cuts)


def read_corner(text):
    at, gain = text.split("=")
    return (int(at), Fraction(gain))


def through_word(row, word):
    """What goes out of the part that a word tells."""
    kind, values = word.split(":")[0], word.split(":")[1:]
    if kind == "delay":
        return delayed(row, int(values[0]))
    if kind == "swell":
        return swelled(row, [read_corner(text) for text in values[0].split(",")])
    sums = {"gain": gained, "echo": echoed, "back": backed, "hall": halled}
    return sums[kind](row, Fraction(values[0]), *[int(value) for value in values[1:]])


def flows_of(patch, rows):
    """The flow of each track and bus of a patch, by the words of [24]."""
    length = max([len(row) for row in rows.values()], default=0)
    flows = {track: [Fraction(tone) for tone in rows[track]] for track in patch.tracks()}
    left = patch.buses()
    while left:
        for bus in list(left):
            sends = [send for send in patch.sends() if send[1] == bus]
            if all(send[0] in flows for send in sends):
                flow = [Fraction(0)] * length
                for source, name, words in sends:
                    row = flows[source]
                    for word in words:
                        row = through_word(row, word)
                    flow = [one + other for one, other in zip(flow, row)]
                flows[bus] = flow
                left.remove(bus)
    return flows


def some_fraction(chance, below_one=False):
    bottom = chance.choice([2, 3, 4, 7, 10] if below_one else [1, 2, 3, 4, 7, 10])
    most = bottom - 1 if below_one else 2 * bottom
    value = Fraction(chance.randint(-most, most), bottom)
    return f"{value.numerator}/{value.denominator}"


def some_word(chance, kinds):
    kind = chance.choice(kinds)
    gain = some_fraction(chance, kind == "hall")
    many = chance.randint(1, 5)
    if kind == "gain":
        return f"gain:{gain}"
    if kind == "delay":
        return f"delay:{many - 1}"
    if kind == "echo":
        return f"echo:{gain}:{many}:{chance.randint(0, 3)}"
    if kind == "swell":
        places = sorted(chance.sample(range(25), many))
        return "swell:" + ",".join(f"{at}={some_fraction(chance)}" for at in places)
    return f"{kind}:{gain}:{many}"


PLAIN = ["gain", "delay", "echo", "back"]
WITHOUT_HALLS = PLAIN + ["swell"]
ALL_KINDS = WITHOUT_HALLS + ["hall"]


def some_patch(seed, kinds=ALL_KINDS, greatest=None):
    """A patch of up to four tracks and seven buses, told in an order that is not the sends'."""
    chance = random.Random(seed)
    patch = Patch()
    tracks = list("abcd")[:chance.randint(1, 4)]
    buses = ["bus" + letter for letter in "tuvwxyz"][:chance.randint(1, 7)]
    chance.shuffle(buses)
    for track in tracks:
        patch.track(track)
    for bus in sorted(buses):
        patch.bus(bus)
    for turn in range(chance.randint(1, 12)):
        at = chance.randrange(len(buses))
        source = chance.choice(tracks + buses[:at])
        patch.send(source, buses[at], [some_word(chance, kinds) for word in range(chance.randint(0, 3))])
    for bus in chance.sample(buses, chance.randint(0, len(buses))):
        patch.out(bus, greatest or chance.choice([3, 50, 1000, 10 ** 12]))
    return patch


def some_rows(patch, seed, length, most=100):
    return {track: some_row(seed * 100 + at, length, most) for at, track in enumerate(patch.tracks())}


def spoil(value):
    """Changes whatever lists and dicts there are in a value, at their fronts and their ends."""
    if isinstance(value, (list, tuple)):
        for one in value:
            spoil(one)
    if isinstance(value, dict):
        for one in value.values():
            spoil(one)
        value["spoiled"] = 77
    if isinstance(value, list):
        value.insert(0, 77)
        value.append(99)


def check_own(case, asked, given):
    """What is handed in stays, and neither it nor what was told, changed afterwards, changes what is told."""
    handed = copy.deepcopy(given)
    told = asked(*handed)
    case.assertEqual(handed, given)
    before = copy.deepcopy(told)
    spoil(told)
    case.assertEqual(handed, given)
    again = asked(*handed)
    case.assertEqual(again, before)
    spoil(handed)
    case.assertEqual(again, before)
