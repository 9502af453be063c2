"""Blocks of tables and their partings."""

from roundsalone.masks import lessened, mask_of, reduced, row_of
from roundsalone.spans import step_masks
from roundsalone.takings import left


def blocks(table):
    """The rows of names that common rounds hold together, by their first names."""
    names = table[0]
    told = [1 << place for place in range(len(names))]
    # The steps are rounds, and names of one block always hang together by steps alone.
    for step in step_masks(table):
        met = [one for one in told if one & step != 0]
        told = [one for one in told if one & step == 0] + [sum(met)]
    return sorted([row_of(names, mask) for mask in told])


def block_table(table, block):
    """The table of a block: the even sets that lie in it."""
    return left(table, [name for name in table[0] if name not in block], [])


def is_single(mask):
    """Whether a mask has one bit or none."""
    return mask & (mask - 1) == 0


def splits(steps, one, rest, met):
    """Whether two masks, that have all bits of the steps between them, part what the steps span.

    Told is to how many steps comes what the steps have of the one, and of the other, both counted together.
    """
    # A rank is the names less the steps that lie in them, and these are all steps less what they have in the rest;
    # so the two ranks come to one more than the whole's just where this comes to one more than the steps.
    return met == len(steps) + 1 and not is_single(one) and not is_single(rest)


def is_parting(table, row):
    """Whether a row parts a table that is one block."""
    names = table[0]
    steps = step_masks(table)
    one = mask_of(names, row)
    rest = mask_of(names, [name for name in names if name not in row])
    met = [len(reduced([step & some for step in steps])) for some in (one, rest)]
    return splits(steps, one, rest, sum(met))


def lies_across(steps, even, some):
    """Whether what an even set has of some names is no even set; masks."""
    return lessened(even & some, steps) != 0


def crosses(table, even, row):
    """Whether an even set crosses a row."""
    names = table[0]
    return lies_across(step_masks(table), mask_of(names, even), mask_of(names, row))
