"""Roads from one net to another of the same ties: steps, or a round that is that of one alone."""

from roundsalone.apart import laid_back, taken_apart
from roundsalone.blocks import block_table, blocks
from roundsalone.errors import NoMatch
from roundsalone.nets import points, star, table_of, ties_of
from roundsalone.parts import parts
from roundsalone.spans import within
from roundsalone.steps import shared_points, step_done
from roundsalone.woods import walk


class Traveller:
    """A net on its way to another one, each block of both a piece of its own.

    It keeps how the net lies now, the steps done, and for the points of the goal the points of the net in their places.
    """

    def __init__(self, start, goal):
        self.ground = start
        self.goal = goal
        self.made = []
        self.places = {}

    def turn(self, ties):
        """Turns some ties."""
        step = ("turn", sorted(ties))
        self.ground = step_done(self.ground, step)
        self.made.append(step)


def ends_of_group(net, group):
    """The two points of a group of a part: of a tie alone its own, else those in common with the other ties."""
    if len(group) > 1:
        return shared_points(net, group)
    return [end for tie, one, other in net if tie == group[0] for end in (one, other)]


def outline(net, share):
    """How a part lies in a net: a net with a tie for each group, called by the group's first name."""
    told = []
    for group in share:
        one, other = ends_of_group(net, group)
        told.append((group[0], one, other))
    return told


def by_stars(net):
    """The points of a net, those with the lesser stars first."""
    return sorted(points(net), key=lambda point: (star(net, point), point))


def fitted(goal, ground):
    """For each point of one outline a point of the other, of the same star, in its place."""
    return dict(zip(by_stars(goal), by_stars(ground)))


def ring_order(ring):
    """The ties of a ring one behind the other, from behind the first one on, without it."""
    return [tie for tie, start, end in walk(ring, ties_of(ring))][1:]


def swaps(order, goal):
    """The pairs of neighbours that change places, one pair after the other, until the order is the goal's."""
    told = []
    lying = order
    for at, name in enumerate(goal):
        passed = lying[at:lying.index(name)]
        told = told + [(ahead, name) for ahead in reversed(passed)]
        lying = lying[:at] + [name] + [ahead for ahead in lying[at:] if ahead != name]
    return told


def ring_laid(trip, share):
    """Lays the groups of a ring in the order of the goal; the first one stays."""
    order, goal = [ring_order(outline(net, share)) for net in (trip.ground, trip.goal)]
    groups = {group[0]: group for group in share}
    # Walked the other way about it is the same ring.
    for one, other in min([swaps(order, goal), swaps(order, goal[::-1])], key=len):
        # Turned together they change places; which way about each one then lies is seen to beyond it.
        trip.turn(groups[one] + groups[other])


def rest_of(share, group):
    """The names of the other groups."""
    return sorted([name for other in share if other != group for name in other])


def part_laid(trip, found, part):
    """Lays a part as it lies in the goal, then those beyond its groups; beyond the first group all is laid already.

    The trip goes from the part with the block's first name on, so in each part this name stands where it came from.
    """
    kind, share = part
    if kind == "ring":
        ring_laid(trip, share)
    fit = fitted(outline(trip.goal, share), outline(trip.ground, share))
    # Of these points the first group's two alone may have places yet, and by the turn these two change.
    if any([trip.places.get(point, place) != place for point, place in fit.items()]):
        trip.turn(rest_of(share, share[0]))
    for point, place in fit.items():
        trip.places.setdefault(point, place)
    for group in share[1:]:
        if len(group) > 1:
            rest = rest_of(share, group)
            beyond = [other for other in found if rest in other[1]]
            part_laid(trip, found, beyond[0])


def steps_between(one, other):
    """The steps from one net to another with the same table."""
    table = table_of(one)
    rows = blocks(table)
    opened, start = taken_apart(one, rows)
    closed, goal = taken_apart(other, rows)
    trip = Traveller(start, goal)
    for row in rows:
        found = parts(block_table(table, row))
        # The first part is the one in which the first name stands alone.
        part_laid(trip, found, found[0])
    return opened + trip.made + laid_back(closed, trip.places)


def own_round(table, other):
    """A round of the one table, whose rows are its steps, that is no even set of the other; or None."""
    # Steps are rounds, and where all of both tables were within the other one the spans would be the same.
    told = [row for row in table[1] if within(other, row)[0] == "without"]
    return told[0] if told else None


def road(one, other):
    """The steps that lead the one net to the other, or a round of one of them alone."""
    if ties_of(one) != ties_of(other):
        raise NoMatch("the nets have unlike ties")
    mine, yours = table_of(one), table_of(other)
    for which, row in enumerate([own_round(mine, yours), own_round(yours, mine)]):
        if row is not None:
            return ("unlike", which, row)
    return ("same", steps_between(one, other))
