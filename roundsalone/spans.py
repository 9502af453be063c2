"""Tables, their steps, what lies within their span, and the crossed table."""

from roundsalone.masks import crossed_masks, lessened, mask_of, reduced, row_of, table_from
from roundsalone.rows import is_row, meets_evenly

MOST_NAMES = 12
MOST_ROWS = 16
MOST_STEPS = 8


def has_table_form(thing):
    """Whether any thing is a table, whatever its bounds."""
    if not isinstance(thing, tuple) or len(thing) != 2:
        return False
    names, rows = thing
    if not is_row(names) or not isinstance(rows, list):
        return False
    return all([is_row(row) and all([name in names for name in row]) for row in rows])


def keeps_bounds(table):
    """Whether a table has not too many names, rows, steps and names beyond its steps."""
    names, rows = table
    if len(names) > MOST_NAMES or len(rows) > MOST_ROWS:
        return False
    many = len(step_masks(table))
    return many <= MOST_STEPS and len(names) - many <= MOST_STEPS


def is_table(thing):
    """Whether any thing is a table within the bounds."""
    return has_table_form(thing) and keeps_bounds(thing)


def step_masks(table):
    """The steps of a table as masks."""
    names, rows = table
    return reduced([mask_of(names, row) for row in rows])


def steps(table):
    """The steps of a table."""
    names = table[0]
    return [row_of(names, mask) for mask in step_masks(table)]


def alike(one, other):
    """Whether two tables have the same names and the same span."""
    return one[0] == other[0] and steps(one) == steps(other)


def crossed(table):
    """The table of the rows that meet each row of the span evenly."""
    names = table[0]
    return table_from(names, crossed_masks(step_masks(table), len(names)))


def within(table, row):
    """The places of rows whose sum the row is, or another row that meets each of them evenly and this one not."""
    names, rows = table
    many = len(rows)
    # Each row bears a bit of its own below those of the names, so a sum tells of which rows it is.
    marked = [(mask_of(names, one) << many) + (1 << place) for place, one in enumerate(rows)]
    rest = lessened(mask_of(names, row) << many, reduced(marked))
    if rest >> many == 0:
        return ("within", [place for place in range(many) if rest >> place & 1 == 1])
    return ("without", oddly_met(table, row))


def oddly_met(table, row):
    """A row that meets each row of the table evenly and the asked one, which is not within its span, not."""
    told = [other for other in crossed(table)[1] if not meets_evenly(other, row)]
    return told[0]
