"""Nets taken apart at the points where blocks meet, and laid together again."""

from roundsalone.nets import points
from roundsalone.steps import shared_points, step_done


def fresh_name(net):
    """A name that is none of the net's points."""
    called = points(net)
    # Of one number more than there are points one at least is free.
    return [str(number) for number in range(len(called) + 1) if str(number) not in called][0]


def next_apart(net, rows):
    """The step that takes off one of the blocks at its one point in common with others, or None."""
    for row in rows:
        shared = shared_points(net, row)
        if len(shared) == 1:
            return ("apart", shared[0], list(row), fresh_name(net))
    return None


def taken_apart(net, rows):
    """The steps that make each of its blocks (the rows) a piece of its own, and the net behind them."""
    told = []
    # Blocks hang together like a tree, so as long as some do, one hangs at just one point.
    step = next_apart(net, rows)
    while step is not None:
        told.append(step)
        net = step_done(net, step)
        step = next_apart(net, rows)
    return (told, net)


def laid_back(told, places):
    """The steps that undo takings apart in a net whose points are the places of the points named there."""
    return [("together", places[point], places[new]) for word, point, ties, new in reversed(told)]
