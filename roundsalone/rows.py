"""Names, and rows of them."""

SIGNS = "abcdefghijklmnopqrstuvwxyz0123456789"
MOST_SIGNS = 6


def is_name(thing):
    """Whether any thing is a name."""
    if not isinstance(thing, str) or len(thing) < 1 or len(thing) > MOST_SIGNS:
        return False
    return all([sign in SIGNS for sign in thing])


def is_row(thing):
    """Whether any thing is a rising list of unlike names."""
    if not isinstance(thing, list) or not all([is_name(one) for one in thing]):
        return False
    return all([one < other for one, other in zip(thing, thing[1:])])


def summed(rows):
    """The row of the names that stand in an odd number of the rows."""
    odd = {}
    for row in rows:
        for name in row:
            odd[name] = not odd.get(name, False)
    return sorted([name for name in odd if odd[name]])


def meets_evenly(one, other):
    """Whether an even number of names stands in both rows."""
    return len([name for name in one if name in other]) % 2 == 0
