"""What a bench tells of its net, besides the net and its table."""

from roundsalone.blocks import block_table, blocks
from roundsalone.judging import judged
from roundsalone.nets import table_of
from roundsalone.parts import parts
from roundsalone.roads import road
from roundsalone.spans import crossed


def parts_by_block(net):
    """The parts of each block of a net's table."""
    table = table_of(net)
    return [parts(block_table(table, block)) for block in blocks(table)]


def crossed_judged(net):
    """How a net's table is judged when it is crossed."""
    return judged(crossed(table_of(net)))


def road_from(net, other):
    """The road from a net to another one."""
    return road(net, other)
