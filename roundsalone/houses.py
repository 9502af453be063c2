"""Even sets, rounds and walls of tables, and the rank of names."""

from roundsalone.masks import row_of, sums
from roundsalone.spans import crossed, step_masks
from roundsalone.takings import left


def in_order(rows):
    """Rows with fewer names first, those with as many as lists are sorted."""
    return sorted(rows, key=lambda row: (len(row), row))


def round_masks(steps):
    """The masks of the rounds of what the steps span."""
    told = []
    # A mask within another one is the less number, so it goes ahead of that.
    for mask in sorted(sums(steps)):
        if mask != 0 and not any([one & mask == one for one in told]):
            told.append(mask)
    return told


def even_sets(table):
    """All rows of the span, in order."""
    return in_order([row_of(table[0], mask) for mask in sums(step_masks(table))])


def rounds(table):
    """The even sets, not empty, within which no other one lies but the empty one, in order."""
    return in_order([row_of(table[0], mask) for mask in round_masks(step_masks(table))])


def walls(table):
    """The rounds of the crossed table, in order."""
    return rounds(crossed(table))


def rank(table, names):
    """The greatest number of the names in which no round lies."""
    others = [name for name in table[0] if name not in names]
    # One name for each step of what lies within them must go, until no round is left.
    return len(names) - len(left(table, others, [])[1])
