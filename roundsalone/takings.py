"""Names taken out of tables, and shrunk in them."""

from roundsalone.errors import NoName
from roundsalone.masks import lacking, mask_of, row_of, table_from
from roundsalone.spans import step_masks


def left(table, taken, shrunk_ones):
    """The table with the names of the one row taken out and those of the other shrunk."""
    names = table[0]
    gone = taken + shrunk_ones
    for name in gone:
        if name not in names:
            raise NoName(f"no such name in the table: {name}")
    masks = step_masks(table)
    for name in taken:
        masks = lacking(masks, mask_of(names, [name]))
    rest = [name for name in names if name not in gone]
    # The numbers are made anew for the names that stay; this drops the shrunk ones out of the even sets.
    return table_from(rest, [mask_of(rest, row_of(names, mask)) for mask in masks])


def taken_out(table, name):
    """The table without the name, its even sets those that hadn't it."""
    return left(table, [name], [])


def shrunk(table, name):
    """The table without the name, which goes out of its even sets too."""
    return left(table, [], [name])
