"""What several tests share: rows, cuts of rows, and the sums that the document tells, reckoned by another way."""

import copy
import random
from fractions import Fraction
from math import trunc

NO_WHOLE_NUMBERS = [None, True, False, "1", "", [], [1], (1,), {}, 1.0]
NO_TEXTS = [None, True, False, 0, 1, 1.5, [], ["gain:1/2"], (), ("track a",), {}, b"gain:1/2"]


def pair(value):
    return (value.numerator, value.denominator)


def tones_of(exact_row):
    """The tones of an exact row as fractions."""
    return [Fraction(top, exact_row[1]) for top in exact_row[0]]


def some_row(seed, length, most=1000):
    chance = random.Random(seed)
    return [chance.randint(-most, most) for at in range(length)]


def cut(row, lengths):
    blocks = []
    for length in lengths:
        blocks.append(row[:length])
        row = row[length:]
    return blocks + [row]


def cuttings(length, seed=0):
    """Ways to cut a row of this length, lengths of 0 among them."""
    chance = random.Random(seed)
    ways = [[], [0], [1], [0, 0, 1, 0], [length, 0], [1] * length, [0, 1] * length, [length - 1] if length else []]
    for way in range(6):
        ways.append([chance.randint(0, 1 + length // 3) for at in range(8)])
    return ways


def ahead(row, at, many):
    return row[at - many] if at >= many else Fraction(0)


def gained(row, gain):
    return [gain * tone for tone in row]


def delayed(row, many):
    return [ahead(row, at, many) for at in range(len(row))]


def echoed(row, gain, many, turns):
    return [sum(gain ** turn * ahead(row, at, turn * many) for turn in range(turns + 1)) for at in range(len(row))]


def backed(row, gain, many):
    return [row[at] - gain * ahead(row, at, many) for at in range(len(row))]


def halled(row, gain, many):
    out = []
    for at in range(len(row)):
        out.append(row[at] + trunc(gain * ahead(out, at, many)))
    return out


def swell_at(corners, at):
    if at <= corners[0][0]:
        return corners[0][1]
    for (left, low), (right, high) in zip(corners, corners[1:]):
        if left <= at <= right:
            return low + (high - low) * Fraction(at - left, right - left)
    return corners[-1][1]


def swelled(row, corners):
    return [swell_at(corners, at) * tone for at, tone in enumerate(row)]


def spoil(value):
    """Changes whatever lists and dicts there are in a value, at their fronts and their ends."""
    if isinstance(value, (list, tuple)):
        for one in value:
            spoil(one)
    if isinstance(value, dict):
        for one in value.values():
            spoil(one)
        value["spoiled"] = 77
    if isinstance(value, list):
        value.insert(0, 77)
        value.append(99)


def check_own(case, asked, given):
    """What is handed in stays, and neither it nor what was told, changed afterwards, changes what is told."""
    handed = copy.deepcopy(given)
    told = asked(*handed)
    case.assertEqual(handed, given)
    before = copy.deepcopy(told)
    spoil(told)
    case.assertEqual(handed, given)
    again = asked(*handed)
    case.assertEqual(again, before)
    spoil(handed)
    case.assertEqual(again, before)
