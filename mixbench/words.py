"""Words of parts, read."""

from mixbench.echoes import Back, Echo, Hall
from mixbench.errors import NoPart, NoText
from mixbench.parts import Delay, Gain
from mixbench.ratios import is_under, read_fraction, size_of
from mixbench.swells import Swell
from mixbench.wholes import whole_of

MOST_GAIN = 1000
MOST_MANY = 1000
MOST_TURNS = 16
MOST_AT = 100000
MOST_CORNERS = 12


def read_gain(text):
    try:
        gain = read_fraction(text)
    except NoText:
        raise NoPart("a gain is the text of a fraction") from None
    if abs(gain[0]) > MOST_GAIN or gain[1] > MOST_GAIN:
        raise NoPart("a gain's top and bottom have a size of at most 1000")
    return gain


def read_number(text, least, most):
    number = whole_of(text)
    if number is None or number < least or number > most:
        raise NoPart(f"a number from {least} to {most} is due, in figures without noughts ahead")
    return number


def read_many(text):
    return read_number(text, 1, MOST_MANY)


def check_count(values, count):
    if len(values) != count:
        raise NoPart("a word of a part has too few or too many values")


def gain_of(values):
    check_count(values, 1)
    return Gain(read_gain(values[0]))


def delay_of(values):
    check_count(values, 1)
    return Delay(read_number(values[0], 0, MOST_MANY))


def echo_of(values):
    check_count(values, 3)
    return Echo(read_gain(values[0]), read_many(values[1]), read_number(values[2], 0, MOST_TURNS))


def back_of(values):
    check_count(values, 2)
    return Back(read_gain(values[0]), read_many(values[1]))


def hall_of(values):
    check_count(values, 2)
    gain = read_gain(values[0])
    if not is_under(size_of(gain), (1, 1)):
        raise NoPart("a hall's gain has a size below 1")
    return Hall(gain, read_many(values[1]))


def read_corner(text):
    halves = text.split("=")
    if len(halves) != 2:
        raise NoPart("a corner is AT=F")
    return (read_number(halves[0], 0, MOST_AT), read_gain(halves[1]))


def swell_of(values):
    check_count(values, 1)
    corners = [read_corner(text) for text in values[0].split(",")]
    if len(corners) > MOST_CORNERS:
        raise NoPart("a swell has at most twelve corners")
    for left, right in zip(corners, corners[1:]):
        if left[0] >= right[0]:
            raise NoPart("each corner of a swell lies behind the one ahead")
    return Swell(corners)


READERS = {
    "gain": gain_of,
    "delay": delay_of,
    "echo": echo_of,
    "back": back_of,
    "swell": swell_of,
    "hall": hall_of,
}


def part_of(word):
    if not isinstance(word, str):
        raise NoPart("the word of a part is a text")
    values = word.split(":")
    if values[0] not in READERS:
        raise NoPart("a word begins with the kind of a part")
    return READERS[values[0]](values[1:])
