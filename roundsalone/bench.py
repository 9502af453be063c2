"""A bench: a net that is kept, with deeds done on it."""

from roundsalone.errors import NoNet, NoTie, TooMany
from roundsalone.nets import has_net_form, keeps_net_bounds, table_of, ties_of
from roundsalone.rows import is_name
from roundsalone.steps import moved, step_done
from roundsalone.tellings import crossed_judged, parts_by_block, road_from


def with_tie(net, tie, point, other):
    """The net with a tie laid between two points."""
    if not all([is_name(thing) for thing in (tie, point, other)]) or tie in ties_of(net):
        raise NoTie("the tie can't be laid")
    told = sorted(net + [(tie, min(point, other), max(point, other))])
    if not keeps_net_bounds(told):
        raise TooMany("the net goes beyond the bounds")
    return told


def without_tie(net, name):
    """The net with a tie taken out."""
    if name not in ties_of(net):
        raise NoTie("no such tie in the net")
    return [tie for tie in net if tie[0] != name]


def with_tie_shrunk(net, name):
    """The net with a tie's two points made one."""
    rest = without_tie(net, name)
    # A tie tells the lesser point first.
    places = {other: one for tie, one, other in net if tie == name}
    return moved(rest, ties_of(rest), places)


def done(net, deed):
    """The net behind any thing as a deed."""
    word, *things = deed if isinstance(deed, tuple) and deed else (None,)
    if word == "lay" and len(things) == 3:
        tie, point, other = things
        return with_tie(net, tie, point, other)
    if word == "take" and len(things) == 1:
        return without_tie(net, things[0])
    if word == "shrink" and len(things) == 1:
        return with_tie_shrunk(net, things[0])
    return step_done(net, deed)


class Bench:
    """Keeps a net."""

    def __init__(self, net):
        if not has_net_form(net):
            raise NoNet("this is no net")
        if not keeps_net_bounds(net):
            raise TooMany("the net goes beyond the bounds")
        self.kept = list(net)

    def do(self, deed):
        """Does a deed on the net."""
        self.kept = done(self.kept, deed)

    def net(self):
        """The net as it is now."""
        return list(self.kept)

    def table(self):
        """The net's table."""
        return table_of(self.kept)

    def parts(self):
        """The parts of each block."""
        return parts_by_block(self.kept)

    def crossed(self):
        """How the crossed table is judged."""
        return crossed_judged(self.kept)

    def road(self, other):
        """The road to another net."""
        return road_from(self.kept, other)
