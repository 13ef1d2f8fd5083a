"""Settlers: they round exact tones, carry the rest on, and cut at a greatest number."""

from mixbench.errors import NoNumber
from mixbench.ratios import fraction, multiple
from mixbench.wholes import is_whole

MOST = 1000000000000


class Settler:
    def __init__(self, greatest):
        if not is_whole(greatest) or greatest < 1 or greatest > MOST:
            raise NoNumber("a greatest number is a whole number from 1 to 1000000000000")
        self.greatest = greatest
        self.cuts = 0
        self.rest = (0, 1)

    def settle(self, tops, bottom):
        # The rest may have come of a row over another bottom.
        shared = multiple(bottom, self.rest[1])
        rest = self.rest[0] * (shared // self.rest[1])
        settled = []
        for top in tops:
            exact = top * (shared // bottom) + rest
            # The half is doubled away, so that all stays whole.
            tone = (2 * exact + shared) // (2 * shared)
            rest = exact - tone * shared
            settled.append(self.cut_tone(tone))
        self.rest = fraction(rest, shared)
        return settled

    def cut_tone(self, tone):
        if abs(tone) <= self.greatest:
            return tone
        self.cuts += 1
        return self.greatest if tone > 0 else -self.greatest
