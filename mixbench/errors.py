"""The refusals: a class for each sort, all under MixError."""


class MixError(ValueError):
    pass


class NoNumber(MixError):
    pass


class NoText(MixError):
    pass


class NoPart(MixError):
    pass


class NoName(MixError):
    pass


class Twice(MixError):
    pass


class NoBus(MixError):
    pass


class Ring(MixError):
    def __init__(self, ring):
        # Without this call the error would keep the asker's own list among its words.
        MixError.__init__(self, "the send would close a ring")
        self.ring = list(ring)


class NoBlock(MixError):
    pass


class NoRow(MixError):
    pass


class NoDeed(MixError):
    pass
