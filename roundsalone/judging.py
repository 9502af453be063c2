"""Tables judged: a net's, or takings and shrinkings that leave a small table of no net."""

from roundsalone.reading import read
from roundsalone.spans import crossed, steps
from roundsalone.takings import left, shrunk, taken_out


def gone_least(table):
    """Names to be taken out and names to be shrunk of a table of no net, so that none more can go."""
    taken, shrunk_ones = [], []
    # A name whose going leaves a net's table would leave one, too, when more names are gone: each is tried just once.
    for name in table[0]:
        now = left(table, taken, shrunk_ones)
        if read(taken_out(now, name)) is None:
            taken.append(name)
        elif read(shrunk(now, name)) is None:
            shrunk_ones.append(name)
    return (taken, shrunk_ones)


def numbered(table):
    """For each name the number whose bits tell in which steps of the table it stands."""
    rows = steps(table)
    return [(name, sum([1 << at for at, row in enumerate(rows) if name in row])) for name in table[0]]


def named(table):
    """The kind of a small table of no net, and a naming of it."""
    other = crossed(table)
    many = len(table[0])
    if many == 7 and len(steps(table)) == 4:
        return ("seven", numbered(other))
    if many == 7:
        return ("crossed seven", numbered(table))
    return ("five" if many == 10 else "three", read(other))


def judged(table):
    """The net that the table is read as, or takings and shrinkings, and a naming of the small table that is left."""
    net = read(table)
    if net is not None:
        return ("net", net)
    taken, shrunk_ones = gone_least(table)
    kind, told = named(left(table, taken, shrunk_ones))
    return ("small", kind, taken, shrunk_ones, told)
