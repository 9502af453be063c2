"""The looker: whether papers, roads and layings hold. It finds nothing itself; it looks at rows and sums alone."""

from roundsalone.nets import has_net_form, pieces, points, star, stars, table_of
from roundsalone.rows import is_row
from roundsalone.spans import alike, crossed
from roundsalone.steps import tried
from roundsalone.takings import left

SEVEN = 7
MOST_ROAD = 400


def is_tuple(thing, many):
    """Whether any thing is a tuple of so many things."""
    return isinstance(thing, tuple) and len(thing) == many


def is_net_of(table, thing):
    """Whether any thing is a net whose table is alike to the table."""
    return has_net_form(thing) and alike(table_of(thing), table)


def is_number(thing):
    """Whether any thing is a whole number."""
    return isinstance(thing, int) and not isinstance(thing, bool)


def numbers_each(names, thing):
    """Whether any thing gives each of the names one of the numbers 1 to 7, and each number once."""
    if not isinstance(thing, list) or not all([is_tuple(one, 2) for one in thing]):
        return False
    if [one[0] for one in thing] != names or not all([is_number(one[1]) for one in thing]):
        return False
    return sorted([one[1] for one in thing]) == list(range(1, SEVEN + 1))


def bit_rows(numbered):
    """For each bit the row of the names whose numbers have it."""
    return [[name for name, number in numbered if number & bit != 0] for bit in (1, 2, 4)]


def is_seven(table, thing):
    """Whether any thing numbers the names so that just the even sets' numbers come to 0."""
    names = table[0]
    # Numbers come to 0 by exclusive or just where the row meets each bit's row evenly.
    return numbers_each(names, thing) and alike(crossed((names, bit_rows(thing))), table)


def pairs_of_points(net):
    """The two points of each tie, sorted."""
    return sorted([(one, other) for tie, one, other in net])


def is_five(net):
    """Whether a net has five points, each two of which have one tie between them."""
    called = points(net)
    if len(called) != 5:
        return False
    return pairs_of_points(net) == [(one, other) for one in called for other in called if one < other]


def is_three(net):
    """Whether a net has six points, three of which have one tie each to each of the other three."""
    called = points(net)
    pairs = pairs_of_points(net)
    # The first point is one of three; those that it is tied to would be the other three.
    far = [point for point in called if (called[0], point) in pairs]
    near = [point for point in called if point not in far]
    if len(near) != 3 or len(far) != 3:
        return False
    return pairs == sorted([(min(one, other), max(one, other)) for one in near for other in far])


def is_small(table, kind, told):
    """Whether a table is the small one of this kind, as any thing tells."""
    if kind == "seven":
        return is_seven(table, told)
    other = crossed(table)
    if kind == "crossed seven":
        return is_seven(other, told)
    if kind == "five":
        return is_net_of(other, told) and is_five(told)
    return kind == "three" and is_net_of(other, told) and is_three(told)


def can_go(names, taken, shrunk_ones):
    """Whether any two things are rows of these names without a common one."""
    if not is_row(taken) or not is_row(shrunk_ones):
        return False
    return all([name in names for name in taken + shrunk_ones]) and not any([name in taken for name in shrunk_ones])


def stands(table, paper):
    """Whether any thing is a net of the table, or takings and shrinkings that leave a small table, told as judged."""
    if is_tuple(paper, 2):
        return paper[0] == "net" and is_net_of(table, paper[1])
    if not is_tuple(paper, 5) or paper[0] != "small":
        return False
    word, kind, taken, shrunk_ones, told = paper
    return can_go(table[0], taken, shrunk_ones) and is_small(left(table, taken, shrunk_ones), kind, told)


def leads(one, other, steps):
    """Whether any thing is a list of steps that lead the one net to the other."""
    if not isinstance(steps, list) or len(steps) > MOST_ROAD:
        return False
    net = one
    for step in steps:
        net = tried(net, step)
        if net is None:
            return False
    return stars(net) == stars(other)


def are_ties_round(net, point, thing):
    """Whether any thing is a list of the ties at a point, in whatever order."""
    if not isinstance(thing, list) or not all([isinstance(tie, str) for tie in thing]):
        return False
    return sorted(thing) == star(net, point)


def goes_round_points(net, lists):
    """Whether any thing is a list of all points, rising, each with the ties at it."""
    if not isinstance(lists, list) or not all([is_tuple(one, 2) for one in lists]):
        return False
    if [one[0] for one in lists] != points(net):
        return False
    return all([are_ties_round(net, point, ties) for point, ties in lists])


def tie_ends(lists):
    """For each tie its two ends, each a point and a place in its list."""
    told = {}
    for point, ties in lists:
        for place, tie in enumerate(ties):
            told[tie] = told.get(tie, []) + [(point, place)]
    return told


def ways_on(lists):
    """For each end the one from which a walk along its tie goes on."""
    many = {point: len(ties) for point, ties in lists}
    told = {}
    for one, other in tie_ends(lists).values():
        for end, (point, place) in ((one, other), (other, one)):
            told[end] = (point, (place + 1) % many[point])
    return told


def face_starts(lists):
    """One end of each face."""
    on = ways_on(lists)
    told, seen = [], {}
    for start in on:
        if start not in seen:
            told.append(start)
        end = start
        while end not in seen:
            seen[end] = True
            end = on[end]
    return told


def lays(net, lists):
    """Whether any thing lays the net on a ball."""
    if not goes_round_points(net, lists):
        return False
    starts = face_starts(lists)
    for piece in pieces(net):
        places = points([tie for tie in net if tie[0] in piece])
        faces = [point for point, place in starts if point in places]
        if len(faces) != len(piece) - len(places) + 2:
            return False
    return True
