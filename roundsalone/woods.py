"""Woods and cuts of nets, and walks round their rounds."""

from roundsalone.errors import NoRound
from roundsalone.nets import homes, pieces, stars, ties_of


def wood(net):
    """The ties that, gone through in order, close no round with those that are kept ahead."""
    kept = []
    for tie, one, other in net:
        home = homes(kept)
        # A tie closes a round just where its points hang together already; a loop's always do.
        if home.get(one, one) != home.get(other, other):
            kept.append((tie, one, other))
    return ties_of(kept)


def cut(net, some):
    """The ties with one end among some points and the other not."""
    return [tie for tie, one, other in net if (one in some) != (other in some)]


def is_one_round(net):
    """Whether all ties of a net together are a round."""
    return len(pieces(net)) == 1 and all([len(told) == 2 for told in stars(net)])


def walk(net, row):
    """The walk round a round of the net: each tie with the point it is walked from and the one it is walked to."""
    rest = [tie for tie in net if tie[0] in row]
    if ties_of(rest) != row or not is_one_round(rest):
        raise NoRound("the row is no round of the net")
    point = rest[0][1]
    told = []
    while rest:
        # Two ends are at each point, so behind the first tie just one tie goes on.
        name, one, other = [tie for tie in rest if point in tie[1:]][0]
        goal = other if point == one else one
        told.append((name, point, goal))
        rest = [tie for tie in rest if tie[0] != name]
        point = goal
    return told
