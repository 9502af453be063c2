"""Quiet walls: those that can be taken out of a block so that one block is left."""

from roundsalone.blocks import blocks
from roundsalone.houses import walls
from roundsalone.takings import left


def is_quiet(table, wall):
    """Whether a wall has not all names, and the other names are one block when it is taken out."""
    # Of all names taken out no block is left.
    return len(blocks(left(table, wall, []))) == 1


def quiet_ones(table):
    """The quiet walls of a table that is one block, in order."""
    return [wall for wall in walls(table) if is_quiet(table, wall)]
