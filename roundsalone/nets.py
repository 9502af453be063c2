"""Nets: their points, stars and pieces, and their tables."""

from roundsalone.rows import is_name, is_row
from roundsalone.spans import MOST_NAMES, crossed, keeps_bounds


def is_tie(thing):
    """Whether any thing is a tuple of a tie and its two points, the one not behind the other."""
    if not isinstance(thing, tuple) or len(thing) != 3 or not all([is_name(part) for part in thing]):
        return False
    return thing[1] <= thing[2]


def has_net_form(thing):
    """Whether any thing is a net, whatever its bounds."""
    if not isinstance(thing, list) or not all([is_tie(part) for part in thing]):
        return False
    return is_row(ties_of(thing))


def keeps_net_bounds(net):
    """Whether a net has not too many ties, and its table keeps the bounds."""
    # Of very many ties the table would take long.
    return len(net) <= MOST_NAMES and keeps_bounds(table_of(net))


def is_net(thing):
    """Whether any thing is a net within the bounds."""
    return has_net_form(thing) and keeps_net_bounds(thing)


def ties_of(net):
    """The ties of a net."""
    return [tie for tie, one, other in net]


def points(net):
    """The points that the ties name."""
    return sorted({end for tie, one, other in net for end in (one, other)})


def star(net, point):
    """The ties at a point, a loop twice."""
    return [tie for tie, one, other in net for end in (one, other) if end == point]


def stars(net):
    """All points' stars, sorted."""
    return sorted([star(net, point) for point in points(net)])


def homes(net):
    """For each point one that is told of all points that hang together with it."""
    home = {point: point for point in points(net)}
    for tie, one, other in net:
        old, new = home[other], home[one]
        home = {point: new if at == old else at for point, at in home.items()}
    return home


def pieces(net):
    """What hangs together by ties: the rows of ties, by their first names."""
    home = homes(net)
    told = {}
    # The ties rise, so the pieces come by their first names.
    for tie, one, other in net:
        told[home[one]] = told.get(home[one], []) + [tie]
    return list(told.values())


def met_once(net, point):
    """The ties at a point but its loops."""
    return [tie for tie, one, other in net if (one == point) != (other == point)]


def table_of(net):
    """The table whose even sets each point's star meets evenly."""
    return crossed((ties_of(net), [met_once(net, point) for point in points(net)]))
