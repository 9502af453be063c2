"""Steps on nets: turns, takings apart and layings together."""

from roundsalone.errors import NoStep
from roundsalone.nets import homes, points, ties_of
from roundsalone.rows import is_name, is_row


def ends_of(net):
    """All points that the ties of a net name, each as often as it is named."""
    return [end for tie, one, other in net for end in (one, other)]


def shared_points(net, ties):
    """The points that some ties have in common with the other ties."""
    own = ends_of([tie for tie in net if tie[0] in ties])
    others = ends_of([tie for tie in net if tie[0] not in ties])
    return [point for point in points(net) if point in own and point in others]


def moved(net, ties, places):
    """The net with each end of some ties that is at one of the places at the other one that this tells."""
    told = []
    for tie, one, other in net:
        ends = [places.get(end, end) if tie in ties else end for end in (one, other)]
        told.append((tie, min(ends), max(ends)))
    return told


def are_ties(net, thing):
    """Whether any thing is a row of ties of the net."""
    return is_row(thing) and all([tie in ties_of(net) for tie in thing])


def turned(net, ties):
    """The net behind a turn, or None."""
    shared = shared_points(net, ties) if are_ties(net, ties) else []
    if len(shared) != 2:
        return None
    one, other = shared
    return moved(net, ties, {one: other, other: one})


def set_apart(net, point, ties, new):
    """The net behind a taking apart, or None."""
    if not are_ties(net, ties) or not is_name(new) or new in points(net):
        return None
    if shared_points(net, ties) != [point]:
        return None
    return moved(net, ties, {point: new})


def laid_together(net, point, other):
    """The net behind a laying together, or None."""
    home = homes(net)
    if not is_name(point) or not is_name(other) or point not in home or other not in home:
        return None
    if home[point] == home[other]:
        return None
    return moved(net, ties_of(net), {other: point})


def tried(net, step):
    """The net behind any thing as a step, or None where it can't be done."""
    if not isinstance(step, tuple) or len(step) == 0:
        return None
    if step[0] == "turn" and len(step) == 2:
        return turned(net, step[1])
    if step[0] == "apart" and len(step) == 4:
        return set_apart(net, step[1], step[2], step[3])
    if step[0] == "together" and len(step) == 3:
        return laid_together(net, step[1], step[2])
    return None


def step_done(net, step):
    """The net behind a step."""
    told = tried(net, step)
    if told is None:
        raise NoStep("the step can't be done on the net")
    return told
