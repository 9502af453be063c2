"""Nets laid on a ball, and their crossed nets."""

from roundsalone.blocks import blocks
from roundsalone.nets import points, star, table_of
from roundsalone.reading import read
from roundsalone.spans import crossed
from roundsalone.tellings import crossed_judged
from roundsalone.woods import walk


def crossed_net(net):
    """A net whose table is alike to the net's crossed one, or None."""
    return read(crossed(table_of(net)))


def backwards(walked):
    """A walk the other way about."""
    return [(tie, end, start) for tie, start, end in reversed(walked)]


def next_points(net, walks):
    """A point that has its walk and one tied to it that hasn't, or None."""
    for tie, one, other in net:
        if (one in walks) != (other in walks):
            return (one, other) if one in walks else (other, one)
    return None


def walks_round(net, other):
    """For each point of a block without loops the walk round it in the crossed net, all the same way about."""
    first = net[0][1]
    walks = {first: walk(other, star(net, first))}
    tied = next_points(net, walks)
    while tied is not None:
        known, point = tied
        walked = walk(other, star(net, point))
        # Round its one end a tie is crossed from left to right, round its other end from right to left.
        if any([step in walks[known] for step in walked]):
            walked = backwards(walked)
        walks[point] = walked
        tied = next_points(net, walks)
    return walks


def block_lists(net, other):
    """For each point of a block the ties at it as they lie round it."""
    tie, one, end = net[0]
    if one == end:
        return {one: [tie, tie]}
    return {point: [step[0] for step in walked] for point, walked in walks_round(net, other).items()}


def lists_of(net, other):
    """The points with the ties as they lie round them, the blocks at a point one behind the other."""
    told = {point: [] for point in points(net)}
    for block in blocks(table_of(net)):
        own = [tie for tie in net if tie[0] in block]
        for point, ties in block_lists(own, other).items():
            told[point] = told[point] + ties
    return [(point, told[point]) for point in told]


def laid(net):
    """The net laid on a ball, or takings and shrinkings that leave a net of five or six points that can't be laid."""
    paper = crossed_judged(net)
    if paper[0] == "net":
        return ("laid", lists_of(net, paper[1]))
    word, kind, taken, shrunk_ones, told = paper
    # What is taken out of the crossed table is shrunk in the table itself, and the other way about.
    return (word, kind, shrunk_ones, taken, told)
