"""Engines: they are fed blocks of tones, and tell the flows and the outlets of a patch."""

from mixbench.chains import Chain
from mixbench.errors import NoBlock, NoBus
from mixbench.exacts import shared_bottom, tops_over
from mixbench.rows import added_rows
from mixbench.settlers import Settler
from mixbench.wholes import is_whole

MOST_TONE = 1000000000000


def is_block(value):
    return isinstance(value, list) and all([is_whole(tone) and abs(tone) <= MOST_TONE for tone in value])


class Engine:
    def __init__(self, patch):
        self.track_names = patch.tracks()
        self.bus_order = patch.order()
        self.leads = {}
        self.bottoms = {}
        self.settlers = {}
        for track in self.track_names:
            self.bottoms[track] = 1
        sends = patch.sends()
        for bus in self.bus_order:
            self.lead_to(bus, [send for send in sends if send[1] == bus])
        for out in patch.outs():
            self.settlers[out[0]] = Settler(out[1])

    def lead_to(self, bus, sends):
        leads = [(send[0], Chain(send[2])) for send in sends]
        self.leads[bus] = leads
        # Set once for all blocks: chains go on only with rows of one bottom.
        self.bottoms[bus] = shared_bottom([self.bottoms[source] * chain.grain() for source, chain in leads])

    def check_blocks(self, blocks):
        if not isinstance(blocks, dict) or len(blocks) != len(self.track_names):
            raise NoBlock("a dict with a list for each track, and no other one, is due")
        for track in self.track_names:
            if track not in blocks:
                raise NoBlock("a track lacks")
            if not is_block(blocks[track]):
                raise NoBlock("a block is a list of whole numbers of at most 1000000000000 either way")
            if len(blocks[track]) != len(blocks[self.track_names[0]]):
                raise NoBlock("the blocks are of unlike lengths")

    def feed(self, blocks):
        # All that is refused is refused here, ahead of any change.
        self.check_blocks(blocks)
        length = len(blocks[self.track_names[0]]) if self.track_names != [] else 0
        flows = {}
        for track in self.track_names:
            flows[track] = (list(blocks[track]), 1)
        for bus in self.bus_order:
            flows[bus] = self.flow_to(bus, flows, length)
        settled = {}
        for name, settler in self.settlers.items():
            settled[name] = settler.settle(flows[name][0], flows[name][1])
        return (flows, settled)

    def flow_to(self, bus, flows, length):
        bottom = self.bottoms[bus]
        tops = [0] * length
        for source, chain in self.leads[bus]:
            row = chain.through(flows[source][0], flows[source][1])
            tops = added_rows(tops, tops_over(row, bottom))
        return (tops, bottom)

    def cuts_of(self, name):
        # A list, other than a dict, can be asked for whatever is told.
        if name not in list(self.settlers):
            raise NoBus("no outlet stands by this name")
        return self.settlers[name].cuts
