"""What is told of a patch ahead of all feeding: weights, reaches, headroom; and patches made later."""

from mixbench.chains import Chain
from mixbench.errors import NoBus
from mixbench.patches import Patch
from mixbench.ratios import is_under, plus, times


def check_name(patch, name):
    if name not in patch.tracks() + patch.buses():
        raise NoBus("no track or bus stands by this name")


def weight_of(patch, name):
    check_name(patch, name)
    weights = {}
    for track in patch.tracks():
        weights[track] = (1, 1)
    sends = patch.sends()
    # In the patch's order each bus is reckoned but once, behind all that lead to it.
    for bus in patch.order():
        weight = (0, 1)
        for send in sends:
            if send[1] == bus:
                weight = plus(weight, times(weights[send[0]], Chain(send[2]).weight()))
        weights[bus] = weight
    return weights[name]


def longest(reaches):
    return None if None in reaches else max(reaches, default=0)


def joined(one, other):
    return None if one is None or other is None else one + other


def reach_of(patch, name):
    check_name(patch, name)
    reaches = {}
    for track in patch.tracks():
        reaches[track] = 0
    sends = patch.sends()
    for bus in patch.order():
        reaches[bus] = longest([joined(reaches[send[0]], Chain(send[2]).reach()) for send in sends if send[1] == bus])
    return reaches[name]


def greatest_of(patch, name):
    for out in patch.outs():
        if out[0] == name:
            return out[1]
    raise NoBus("no outlet stands by this name")


def has_room(patch, name, size):
    greatest = greatest_of(patch, name)
    needed = plus((1, 1), times(weight_of(patch, name), (size, 1)))
    return not is_under((greatest, 1), needed)


def later_patch(patch, n):
    later = Patch()
    for track in patch.tracks():
        later.track(track)
    for bus in patch.buses():
        later.bus(bus)
    for send in patch.sends():
        later.send(send[0], send[1], Chain(send[2]).later(n))
    for out in patch.outs():
        later.out(out[0], out[1])
    return later
