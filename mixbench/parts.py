"""Parts: what they share, and the two plainest, gain and delay."""

from mixbench.ratios import fraction_text, size_of
from mixbench.rows import times_row


def delayed(known, start, many):
    """The tones from start on, each as it stands many places ahead of its own."""
    # Ahead of the first tone all are nought.
    return [known[at - many] if at >= many else 0 for at in range(start, len(known))]


def last_of(known, many):
    # A tuple, for a state must stay as it was when it is handed in again.
    return tuple(known[max(0, len(known) - many):])


class Part:
    """What holds for most parts; each one tells for itself where it is otherwise."""

    def grain(self):
        return 1

    def fresh(self):
        return ()

    def reach(self):
        return 0

    def weight(self):
        return (1, 1)

    def later(self, n):
        # No part changes once it is made, so the same one serves again.
        return self


class Gain(Part):
    def __init__(self, gain):
        self.gain = gain

    def grain(self):
        return self.gain[1]

    def through(self, state, tops, bottom):
        return (times_row(tops, self.gain[0]), state)

    def weight(self):
        return size_of(self.gain)

    def word(self):
        gain = fraction_text(self.gain)
        return f"gain:{gain}"


class Delay(Part):
    """Its state is the last tones that came in, as many as it still needs."""

    def __init__(self, many):
        self.many = many

    def through(self, state, tops, bottom):
        known = list(state) + tops
        return (delayed(known, len(state), self.many), last_of(known, self.many))

    def reach(self):
        return self.many

    def word(self):
        many = self.many
        return f"delay:{many}"
