"""The part whose gain goes from corner to corner: swell."""

from mixbench.exacts import shared_bottom
from mixbench.parts import Part
from mixbench.ratios import fraction_text, is_under, plus, size_of, times


def slopes_of(corners):
    """By how much the gain grows from tone to tone behind each corner."""
    slopes = []
    for left, right in zip(corners, corners[1:]):
        rise = plus(right[1], times((-1, 1), left[1]))
        slopes.append(times(rise, (1, right[0] - left[0])))
    # Behind the last corner the gain stays.
    slopes.append((0, 1))
    return slopes


def over(one, bottom):
    return one[0] * (bottom // one[1])


def corner_word(corner):
    at = corner[0]
    gain = fraction_text(corner[1])
    return f"{at}={gain}"


class Swell(Part):
    """Its state is how many tones came in."""

    def __init__(self, corners):
        self.corners = tuple(corners)
        slopes = slopes_of(self.corners)
        # One bottom for all gains that may come, so that the grain is the same for all blocks.
        self.shared = shared_bottom([corner[1][1] for corner in corners] + [slope[1] for slope in slopes])
        self.lines = tuple([
            (corner[0], over(corner[1], self.shared), over(slope, self.shared))
            for corner, slope in zip(self.corners, slopes)
        ])

    def grain(self):
        return self.shared

    def fresh(self):
        return 0

    def line_at(self, at):
        found = 0
        while found + 1 < len(self.lines) and self.lines[found + 1][0] <= at:
            found += 1
        return self.lines[found]

    def gain_at(self, at):
        line = self.line_at(at)
        # Up to the first corner the gain is that corner's.
        return line[1] + line[2] * max(0, at - line[0])

    def through(self, state, tops, bottom):
        out = [self.gain_at(at) * top for at, top in enumerate(tops, start=state)]
        return (out, state + len(tops))

    def weight(self):
        most = (0, 1)
        for corner in self.corners:
            size = size_of(corner[1])
            if is_under(most, size):
                most = size
        return most

    def later(self, n):
        return Swell([(corner[0] + n, corner[1]) for corner in self.corners])

    def word(self):
        corners = ",".join([corner_word(corner) for corner in self.corners])
        return f"swell:{corners}"
