"""Blocks of tables and their partings."""

from roundsalone.masks import lessened, mask_of, reduced, row_of
from roundsalone.spans import step_masks
from roundsalone.takings import left


def blocks(table):
    """The rows of names that common rounds hold together, by their first names."""
    names = table[0]
    told = [1 << place for place in range(len(names))]
    # The steps are rounds, and names of one block always hang together by steps alone.
    for step in step_masks(table):
        met = [one for one in told if one & step != 0]
        told = [one for one in told if one & step == 0] + [sum(met)]
    return sorted([row_of(names, mask) for mask in told])


def block_table(table, block):
    """The table of a block: the even sets that lie in it."""
    return left(table, [name for name in table[0] if name not in block], [])


def is_single(mask):
    """Whether a mask has one bit or none."""
    return mask & (mask - 1) == 0


def splits(steps, one, rest):
    """Whether two masks, that have all bits of the steps between them, part what the steps span."""
    if is_single(one) or is_single(rest):
        return False
    # A rank is the names less the steps that lie in them, and these are all steps less what they have in the rest;
    # so the two ranks come to one more than the whole's just where this comes to one more than the steps.
    met = [len(reduced([step & some for step in steps])) for some in (one, rest)]
    return sum(met) == len(steps) + 1


def is_parting(table, row):
    """Whether a row parts a table that is one block."""
    names = table[0]
    rest = [name for name in names if name not in row]
    return splits(step_masks(table), mask_of(names, row), mask_of(names, rest))


def lies_across(steps, even, some):
    """Whether what an even set has of some names is no even set; masks."""
    return lessened(even & some, steps) != 0


def crosses(table, even, row):
    """Whether an even set crosses a row."""
    names = table[0]
    return lies_across(step_masks(table), mask_of(names, even), mask_of(names, row))
