"""Fractions: tuples (top, bottom) in lowest terms, bottom from 1 on, and their texts."""

from mixbench.errors import NoNumber, NoText
from mixbench.wholes import is_figures, is_whole

MOST_FIGURES = 9


def divisor(one, other):
    left = abs(one)
    right = abs(other)
    while right != 0:
        rest = left % right
        left = right
        right = rest
    return left


def multiple(one, other):
    # Two noughts have the divisor 0, by which nothing can be parted.
    if one == 0 or other == 0:
        return 0
    return abs(one) // divisor(one, other) * abs(other)


def fraction(top, bottom):
    if not is_whole(top) or not is_whole(bottom):
        raise NoNumber("a fraction is made of two whole numbers")
    if bottom == 0:
        raise NoNumber("a fraction's bottom is not 0")
    by = divisor(top, bottom)
    # The sign goes to the top: a divisor below 0 turns the signs of both.
    if bottom < 0:
        by = -by
    return (top // by, bottom // by)


def plus(one, other):
    return fraction(one[0] * other[1] + other[0] * one[1], one[1] * other[1])


def times(one, other):
    return fraction(one[0] * other[0], one[1] * other[1])


def size_of(one):
    return (abs(one[0]), one[1])


def is_under(one, other):
    return one[0] * other[1] < other[0] * one[1]


def fraction_text(one):
    top = one[0]
    bottom = one[1]
    return f"{top}/{bottom}"


def read_fraction(text):
    if not isinstance(text, str):
        raise NoText("the text of a fraction is a text")
    halves = text.split("/")
    if len(halves) != 2:
        raise NoText("the text of a fraction is TOP/BOTTOM")
    top = halves[0][1:] if halves[0].startswith("-") else halves[0]
    for number in [top, halves[1]]:
        if not is_figures(number) or len(number) > MOST_FIGURES:
            raise NoText("a number in the text of a fraction is one to nine figures")
    if int(halves[1]) == 0:
        raise NoText("a fraction's bottom is not 0")
    one = fraction(int(halves[0]), int(halves[1]))
    # Each fraction has one text, so noughts ahead, -0 and terms that are not the lowest show here.
    if fraction_text(one) != text:
        raise NoText("a fraction is written in lowest terms, without noughts ahead")
    return one
