"""Patches: tracks, buses, the sends that lead from the ones to the others, and outlets."""

from mixbench.chains import Chain
from mixbench.errors import NoBus, NoName, Ring, Twice
from mixbench.settlers import Settler

LETTERS = "abcdefghijklmnopqrstuvwxyz"
MOST_LETTERS = 8


def is_name(value):
    if not isinstance(value, str) or value == "" or len(value) > MOST_LETTERS:
        return False
    return all([sign in LETTERS for sign in value])


class Patch:
    def __init__(self):
        self.track_names = []
        self.bus_names = []
        self.told_sends = []
        self.told_outs = []

    def check_new(self, name):
        if not is_name(name):
            raise NoName("a name is one to eight of the letters a to z")
        if name in self.track_names or name in self.bus_names:
            raise Twice("the name stands already")

    def track(self, name):
        self.check_new(name)
        self.track_names.append(name)

    def bus(self, name):
        self.check_new(name)
        self.bus_names.append(name)

    def send(self, source, bus, words):
        # Asked of lists, which, other than dicts, can be asked for whatever is told.
        if source not in self.track_names and source not in self.bus_names:
            raise NoBus("no track or bus stands by the source's name")
        if bus not in self.bus_names:
            raise NoBus("no bus stands by this name")
        chain = Chain(words)
        ring = self.way(bus, source)
        if ring != []:
            raise Ring(ring)
        self.told_sends.append((source, bus, chain.words()))

    def way(self, start, end):
        """The names from start to end, each one the source of a send to the next; none where there is no way."""
        ways = {start: [start]}
        waiting = [start]
        while waiting != []:
            source = waiting.pop()
            if source == end:
                return ways[source]
            for send in self.told_sends:
                # A bus that was come to already is not looked at again, however many ways lead to it.
                if send[0] == source and send[1] not in ways:
                    ways[send[1]] = ways[source] + [send[1]]
                    waiting.append(send[1])
        return []

    def out(self, bus, greatest):
        if bus not in self.bus_names:
            raise NoBus("no bus stands by this name")
        if bus in [out[0] for out in self.told_outs]:
            raise Twice("the bus is an outlet already")
        # A settler is made here only for its refusal of a greatest number that is none.
        settler = Settler(greatest)
        self.told_outs.append((bus, settler.greatest))

    def tracks(self):
        return list(self.track_names)

    def buses(self):
        return list(self.bus_names)

    def sends(self):
        return [(send[0], send[1], list(send[2])) for send in self.told_sends]

    def outs(self):
        return list(self.told_outs)

    def order(self):
        placed = []
        while len(placed) < len(self.bus_names):
            # There is always one, for a patch has no ring.
            placed.append([bus for bus in self.bus_names if self.is_next(bus, placed)][0])
        return placed

    def is_next(self, bus, placed):
        if bus in placed:
            return False
        for send in self.told_sends:
            if send[1] == bus and send[0] in self.bus_names and send[0] not in placed:
                return False
        return True
