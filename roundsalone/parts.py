"""Parts of blocks: rings, bundles and wholes, and the tables of their shares.

Within, a share is a list of masks, one for each group, the greatest first: as the groups have no name in common, they
are then sorted as their rows are.
"""

from roundsalone.blocks import is_single, lies_across, splits
from roundsalone.masks import lessened, mask_of, reduced, row_of, table_from
from roundsalone.spans import step_masks


def is_crossed(steps, even, group):
    """Whether an even set crosses a group; one of one name where it has the name, though it be a loop."""
    if is_single(group):
        return even & group != 0
    return lies_across(steps, even, group)


def share_masks(steps, groups):
    """The steps of a share's table, with a bit for each group."""
    # Of a group that parts the block each even set has one of two things, so the sums of the steps tell all the others.
    crossed_ones = [[group for group in groups if is_crossed(steps, step, group)] for step in steps]
    return reduced([mask_of(groups, some) for some in crossed_ones])


def grown(base, column):
    """Columns of which none is a sum of others, with one more where it is no sum of them."""
    fresh = lessened(column, base)
    return base if fresh == 0 else base + [fresh]


def widths(steps, many):
    """For each mask of so many names, to how many steps comes what the steps have of it."""
    # It comes to as many as there are columns of these names of which none is a sum of others.
    bases = [[]]
    for place in range(many):
        column = sum([1 << at for at, step in enumerate(steps) if step >> place & 1 == 1])
        bases = bases + [grown(base, column) for base in bases]
    return [len(base) for base in bases]


def first_parting(steps, many):
    """A mask that parts what the steps span of so many names, or 0 where there is none."""
    whole = (1 << many) - 1
    met = widths(steps, many)
    # A rest parts just where the row does, so the highest bit may stay out.
    for some in range(1 << (many - 1)):
        if splits(steps, some, whole ^ some, met[some] + met[whole ^ some]):
            return some
    return 0


def kind_of(steps, many):
    """What a share of so many groups is whose table has these steps and no parting."""
    if many == 1:
        return "loop" if steps else "bridge"
    if len(steps) == 1:
        return "ring"
    return "bundle" if len(steps) == many - 1 else "whole"


def parted(steps, groups):
    """The kinds and shares that a share comes to when it is parted as long as it can be."""
    own = share_masks(steps, groups)
    some = first_parting(own, len(groups))
    if some == 0:
        return [(kind_of(own, len(groups)), groups)]
    inner = row_of(groups, some)
    outer = [group for group in groups if group not in inner]
    return parted(steps, beside(inner, outer)) + parted(steps, beside(outer, inner))


def beside(groups, others):
    """The share of some groups, with the names of the others as one group."""
    return sorted(groups + [sum(others)], reverse=True)


def are_mates(one, other, whole):
    """Whether two parts are rings side by side, or bundles: a group of the one is the rest of a group of the other."""
    if one[0] != other[0] or one[0] == "whole":
        return False
    return any([whole ^ group in other[1] for group in one[1]])


def melded(one, other, whole):
    """Two shares made one: the two groups that are the rests of one another go."""
    kept = [group for group in one if whole ^ group not in other]
    return sorted(kept + [group for group in other if whole ^ group not in one], reverse=True)


def joined(found, whole):
    """The kinds and shares, rings side by side made one, and bundles side by side."""
    told = []
    for kind, groups in found:
        mates = [part for part in told if are_mates(part, (kind, groups), whole)]
        told = [part for part in told if part not in mates]
        # The parts hang together like a tree, so no two of the mates lie beside one another.
        for mate in mates:
            groups = melded(mate[1], groups, whole)
        told.append((kind, groups))
    return told


def parts(table):
    """The parts of a table that is one block, sorted by their shares."""
    names = table[0]
    singles = [1 << place for place in reversed(range(len(names)))]
    found = joined(parted(step_masks(table), singles), (1 << len(names)) - 1)
    told = [(kind, [row_of(names, group) for group in groups]) for kind, groups in found]
    return sorted(told, key=lambda part: part[1])


def part_table(table, share):
    """The table of a part's share, of the first names of its groups."""
    groups = [mask_of(table[0], group) for group in share]
    return table_from([group[0] for group in share], share_masks(step_masks(table), groups))
