"""Rows as whole numbers: a bit for each name of a table, the first name's bit the highest.

So the highest bit of a number is the lead of its row, and the sum of rows is their exclusive or.
"""


def mask_of(names, row):
    """The number of a row; names of the row that are none of the names are passed over."""
    mask = 0
    for name in names:
        mask = 2 * mask + (1 if name in row else 0)
    return mask


def row_of(names, mask):
    """The row whose number it is, a new list."""
    last = len(names) - 1
    return [name for at, name in enumerate(names) if mask >> (last - at) & 1 == 1]


def lessened(mask, kept):
    """The mask, with those of the kept ones added whose highest bit it has."""
    for step in kept:
        # The sum is the less one just where the mask has the step's highest bit.
        mask = min(mask, mask ^ step)
    return mask


def reduced(masks):
    """The steps of what the masks span: the highest bit of each is in no other one, the greatest goes first."""
    kept = []
    for mask in masks:
        fresh = lessened(mask, kept)
        if fresh != 0:
            kept = [min(step, step ^ fresh) for step in kept] + [fresh]
    return sorted(kept, reverse=True)


def sums(masks):
    """The sums of each choice of the masks."""
    told = [0]
    for mask in masks:
        told = told + [one ^ mask for one in told]
    return told


def lead_of(mask):
    """The highest bit of a mask that isn't 0."""
    return 1 << (mask.bit_length() - 1)


def crossed_masks(steps, width):
    """Masks that span all those of so many bits that meet each of the steps evenly."""
    leads = sum([lead_of(step) for step in steps])
    told = []
    for place in range(width):
        bit = 1 << place
        if leads & bit == 0:
            # The bit meets just those steps that have it; the lead of each makes that meeting even again.
            told.append(bit + sum([lead_of(step) for step in steps if step & bit != 0]))
    return told


def lacking(masks, bit):
    """Masks that span just those sums of the masks that haven't the bit."""
    having = [mask for mask in masks if mask & bit != 0]
    without = [mask for mask in masks if mask & bit == 0]
    return without + [mask ^ having[0] for mask in having[1:]]


def table_from(names, masks):
    """The table of these names that the masks span; its rows are its steps."""
    return (list(names), [row_of(names, mask) for mask in reduced(masks)])
