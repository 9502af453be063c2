"""Tables read: the net of a table, put together part by part."""

from roundsalone.blocks import block_table, blocks
from roundsalone.nets import points
from roundsalone.parts import part_table, parts
from roundsalone.quiet import quiet_ones


def ring_pairs(many):
    """The ends of so many ties that lie in a ring, one behind the other."""
    return [(at, (at + 1) % many) for at in range(many)]


def whole_pairs(table):
    """The ends of the ties of a whole part, which are its quiet walls; or None where it is no net's."""
    quiet = quiet_ones(table)
    told = [tuple([at for at, wall in enumerate(quiet) if name in wall]) for name in table[0]]
    return told if all([len(pair) == 2 for pair in told]) else None


def pairs_of(kind, table):
    """The ends of each name of a part's table, as points numbered within the part; or None."""
    many = len(table[0])
    if kind == "whole":
        return whole_pairs(table)
    if kind == "bundle" or kind == "bridge":
        return [(0, 1)] * many
    # A loop is a ring of one.
    return ring_pairs(many)


def from_the_first(found):
    """Parts from the one with the block's first name on, each behind the one beyond its first group."""
    # This group has the block's first name, and of two parts the one farther from that name has more names in it.
    return sorted(found, key=lambda part: len(part[1][0]))


def part_put(share, pairs, ends, many):
    """Puts a part to the ends that the groups have already, its further points numbered from so many on.

    Tells how many points there are then.
    """
    names = sorted([name for group in share for name in group])
    beyond = tuple([name for name in names if name not in share[0]])
    # What lies beyond its first group has this part as one of its groups, with the same two ends.
    places = dict(zip(pairs[0], ends.get(beyond, ())))
    for group, pair in zip(share, pairs):
        for point in pair:
            if point not in places:
                places[point] = many
                many += 1
        ends[tuple(group)] = (places[pair[0]], places[pair[1]])
    return many


def block_drawn(table, many):
    """The ties of a block's table as a net whose points are numbered from so many on, or None."""
    ends = {}
    for kind, share in from_the_first(parts(table)):
        pairs = pairs_of(kind, part_table(table, share))
        if pairs is None:
            return None
        many = part_put(share, pairs, ends, many)
    ties = {name: sorted([str(end) for end in ends[(name,)]]) for name in table[0]}
    return [(name, ties[name][0], ties[name][1]) for name in ties]


def read(table):
    """A net whose table is alike to the table, each block a piece of its own, or None."""
    told = []
    for block in blocks(table):
        drawn = block_drawn(block_table(table, block), len(points(told)))
        if drawn is None:
            return None
        told = told + drawn
    return sorted(told)
