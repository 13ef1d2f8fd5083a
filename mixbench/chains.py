"""Chains: parts, one behind another, with their states."""

from mixbench.errors import NoPart
from mixbench.ratios import times
from mixbench.words import part_of

MOST_PARTS = 8


def parts_of(words):
    if not isinstance(words, list):
        raise NoPart("a chain is a list of words")
    if len(words) > MOST_PARTS:
        raise NoPart("a chain has at most eight words")
    return [part_of(word) for word in words]


class Chain:
    def __init__(self, words):
        self.parts = parts_of(words)
        self.states = [part.fresh() for part in self.parts]

    def through(self, tops, bottom):
        row = (list(tops), bottom)
        states = []
        for part, state in zip(self.parts, self.states):
            told = part.through(state, row[0], row[1])
            row = (told[0], row[1] * part.grain())
            states.append(told[1])
        self.states = states
        return row

    def grain(self):
        product = 1
        for part in self.parts:
            product = product * part.grain()
        return product

    def weight(self):
        product = (1, 1)
        for part in self.parts:
            product = times(product, part.weight())
        return product

    def reach(self):
        reaches = [part.reach() for part in self.parts]
        return None if None in reaches else sum(reaches)

    def words(self):
        return [part.word() for part in self.parts]

    def later(self, n):
        return [part.later(n).word() for part in self.parts]
