"""The parts that hear what was: echo, back and hall."""

from mixbench.parts import Part, delayed, last_of
from mixbench.ratios import fraction, fraction_text, plus, size_of
from mixbench.rows import added_rows, times_row


def powers_of(number, most):
    powers = [1]
    for turn in range(most):
        powers.append(powers[turn] * number)
    return powers


def toward_nought(top, bottom):
    # Python's // goes down, which below 0 is away from nought.
    return top // bottom if top >= 0 else -(-top // bottom)


class Echo(Part):
    """Its state is the last tones that came in, as many as it still needs."""

    def __init__(self, gain, many, turns):
        self.gain = gain
        self.many = many
        self.turns = turns
        tops = powers_of(gain[0], turns)
        bottoms = powers_of(gain[1], turns)
        # All powers of the gain, over the bottom of the last of them.
        self.factors = tuple([tops[turn] * bottoms[turns - turn] for turn in range(turns + 1)])
        self.factor_bottom = bottoms[turns]

    def grain(self):
        return self.factor_bottom

    def through(self, state, tops, bottom):
        known = list(state) + tops
        out = []
        for turn in range(self.turns + 1):
            heard = delayed(known, len(state), turn * self.many)
            out = added_rows(out, times_row(heard, self.factors[turn]))
        return (out, last_of(known, self.reach()))

    def reach(self):
        return self.many * self.turns

    def weight(self):
        return fraction(sum([abs(factor) for factor in self.factors]), self.factor_bottom)

    def word(self):
        gain = fraction_text(self.gain)
        many = self.many
        turns = self.turns
        return f"echo:{gain}:{many}:{turns}"


class Back(Part):
    """Its state is the last tones that came in, as many as it still needs."""

    def __init__(self, gain, many):
        self.gain = gain
        self.many = many

    def grain(self):
        return self.gain[1]

    def through(self, state, tops, bottom):
        known = list(state) + tops
        heard = delayed(known, len(state), self.many)
        out = added_rows(times_row(tops, self.gain[1]), times_row(heard, -self.gain[0]))
        return (out, last_of(known, self.many))

    def reach(self):
        return self.many

    def weight(self):
        return plus((1, 1), size_of(self.gain))

    def word(self):
        gain = fraction_text(self.gain)
        many = self.many
        return f"back:{gain}:{many}"


class Hall(Part):
    """Its state is the last tones that went out, as many as it still needs."""

    def __init__(self, gain, many):
        self.gain = gain
        self.many = many

    def through(self, state, tops, bottom):
        known = list(state)
        for top in tops:
            heard = known[len(known) - self.many] if len(known) >= self.many else 0
            whole = toward_nought(self.gain[0] * heard, self.gain[1] * bottom)
            known.append(top + whole * bottom)
        return (known[len(state):], last_of(known, self.many))

    def reach(self):
        return None

    def weight(self):
        return fraction(self.gain[1], self.gain[1] - abs(self.gain[0]))

    def word(self):
        gain = fraction_text(self.gain)
        many = self.many
        return f"hall:{gain}:{many}"
