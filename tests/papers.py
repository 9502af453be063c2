"""The words of points 24, 26, 28 and 29, by going through all rows; nothing of the package is used here.

Rows are numbers here, the first name's bit the lowest: all of twelve names are gone through soon enough.
"""

import itertools
import random

from tests.brute import LETTERS, grown_block, lumps

SIGNS = "abcdefghijklmnopqrstuvwxyz0123456789"


def number_of(names, row):
    return sum(1 << names.index(name) for name in row)


def is_odd(number):
    return bin(number).count("1") % 2 == 1


def evens_of_table(table):
    """The span of a table, as a set of numbers."""
    told = {0}
    for row in table[1]:
        number = number_of(table[0], row)
        told = told | {one ^ number for one in told}
    return told


def evens_of_net(net):
    """The rows of ties that each star meets evenly, as a set of numbers: all ends of their ties come to nothing."""
    places = sorted({end for tie, *ends in net for end in ends})
    ends = [(1 << places.index(one)) ^ (1 << places.index(other)) for tie, one, other in net]
    met = [0]
    for both in ends:
        met = met + [one ^ both for one in met]
    return {at for at, one in enumerate(met) if one == 0}


def some_rows(evens):
    """A few of the even sets, whose sums all the others are."""
    rows, known = [], {0}
    for even in sorted(evens):
        if even not in known:
            rows.append(even)
            known = known | {one ^ even for one in known}
    return rows


def crossed_evens(names, evens):
    """All rows of the names that meet each even set evenly."""
    rows = some_rows(evens)
    return {row for row in range(1 << len(names)) if not any(is_odd(row & even) for even in rows)}


def squeezed(names, kept, number):
    """The number of the same row of names, of which some are kept alone."""
    return sum(1 << place for place, name in enumerate(kept) if number >> names.index(name) & 1)


def what_is_left(names, evens, taken, shrunk):
    """Names and even sets, some taken out and some shrunk."""
    kept = [name for name in names if name not in taken + shrunk]
    gone = number_of(names, taken)
    return kept, {squeezed(names, kept, even) for even in evens if even & gone == 0}


def is_name(thing):
    return isinstance(thing, str) and 1 <= len(thing) <= 6 and all(sign in SIGNS for sign in thing)


def is_row(thing):
    return isinstance(thing, list) and all(map(is_name, thing)) and thing == sorted(set(thing))


def is_tuple(thing, many):
    return isinstance(thing, tuple) and len(thing) == many


def is_net(thing):
    """Whether any thing is of the form of point 12."""
    if not isinstance(thing, list) or not all(is_tuple(tie, 3) and all(map(is_name, tie)) for tie in thing):
        return False
    return is_row([tie for tie, one, other in thing]) and all(one <= other for tie, one, other in thing)


def is_net_of(names, evens, thing):
    """Whether any thing is a net of these ties that has these even sets."""
    return is_net(thing) and [tie for tie, one, other in thing] == names and evens_of_net(thing) == evens


def is_five(net):
    """Five points, each two of which have one tie between them."""
    places = sorted({end for tie, *ends in net for end in ends})
    pairs = sorted((one, other) for tie, one, other in net)
    return len(places) == 5 and pairs == list(itertools.combinations(places, 2))


def is_three(net):
    """Six points, three of which have one tie each to each of the other three."""
    places = sorted({end for tie, *ends in net for end in ends})
    pairs = sorted((one, other) for tie, one, other in net)
    threes = itertools.combinations(places, 3) if len(places) == 6 else ()
    return any(pairs == sorted(tuple(sorted((one, other))) for one in three for other in set(places) - set(three))
               for three in threes)


def is_numbering(names, evens, told):
    """Whether any thing gives the numbers 1 to 7 to the names, of which just the even sets' come to 0."""
    if not isinstance(told, list) or len(names) != 7 or not all(is_tuple(one, 2) for one in told):
        return False
    numbers = [number for name, number in told]
    if [name for name, number in told] != names or not all(type(number) is int for number in numbers):
        return False
    met = [0]
    for number in numbers:
        met = met + [one ^ number for one in met]
    return sorted(numbers) == [1, 2, 3, 4, 5, 6, 7] and {at for at, one in enumerate(met) if one == 0} == evens


def is_naming(names, evens, kind, told):
    """Whether the table that is left is of this kind, and this tells how."""
    if kind == "seven":
        return is_numbering(names, evens, told)
    other = crossed_evens(names, evens)
    if kind == "crossed seven":
        return is_numbering(names, other, told)
    if kind == "five":
        return is_net_of(names, other, told) and is_five(told)
    return kind == "three" and is_net_of(names, other, told) and is_three(told)


def stands(table, paper):
    """Whether any thing is a paper of the table as point 26 says."""
    names, evens = table[0], evens_of_table(table)
    if is_tuple(paper, 2) and paper[0] == "net":
        return is_net_of(names, evens, paper[1])
    if not is_tuple(paper, 5) or paper[0] != "small" or not is_row(paper[2]) or not is_row(paper[3]):
        return False
    gone = paper[2] + paper[3]
    if len(set(gone)) != len(gone) or not set(gone) <= set(names):
        return False
    return is_naming(*what_is_left(names, evens, paper[2], paper[3]), paper[1], paper[4])


def net_stands(net, paper):
    """Whether takings and shrinkings leave of a net's table that of five or six points, as point 29 says."""
    word, kind, taken, shrunk, told = paper
    names = [tie for tie, one, other in net]
    gone = taken + shrunk
    if word != "small" or not is_row(taken) or not is_row(shrunk) or len(set(gone)) != len(gone):
        return False
    kept, evens = what_is_left(names, evens_of_net(net), taken, shrunk)
    return is_net_of(kept, evens, told) and (is_five(told) if kind == "five" else kind == "three" and is_three(told))


def star_of(net, point):
    return sorted(tie for tie, *ends in net for end in ends if end == point)


def is_round_the_points(net, lists):
    """Whether any thing is a list of the points, rising, each with the ties at it."""
    if not isinstance(lists, list) or not all(is_tuple(one, 2) and isinstance(one[1], list) for one in lists):
        return False
    places = sorted({end for tie, *ends in net for end in ends})
    if [point for point, ties in lists] != places or not all(is_name(tie) for point, ties in lists for tie in ties):
        return False
    return all(sorted(ties) == star_of(net, point) for point, ties in lists)


def faces_of(lists):
    """The walks that come round, each as the ends that it begins its ties at."""
    ends = [(point, place) for point, ties in lists for place in range(len(ties))]
    tie_at = {(point, place): tie for point, ties in lists for place, tie in enumerate(ties)}
    beyond = {end: far for end in ends for far in ends if end != far and tie_at[end] == tie_at[far]}
    many = {point: len(ties) for point, ties in lists}
    told = []
    while ends:
        face, end = [], ends[0]
        while end not in face:
            face.append(end)
            point, place = beyond[end]
            end = (point, (place + 1) % many[point])
        told.append(face)
        ends = [end for end in ends if end not in face]
    return told


def pieces_of(net):
    """The pieces, each as a net."""
    return [[tie for tie in net if tie[0] in lump] for lump in lumps(net, [])]


def lays(net, lists):
    """Whether any thing lays the net on a ball as point 28 says."""
    if not is_round_the_points(net, lists):
        return False
    for piece in pieces_of(net):
        places = {end for tie, *ends in piece for end in ends}
        faces = faces_of([(point, ties) for point, ties in lists if point in places])
        if len(faces) != len(piece) - len(places) + 2:
            return False
    return True


def lined(pairs):
    """The net whose ties, called by letters, lie between these points."""
    return [(tie, *sorted(map(str, pair))) for tie, pair in zip(LETTERS, pairs)]


def five(names=LETTERS):
    """A net of five points, each tied to each."""
    return [(tie, *pair) for tie, pair in zip(names, itertools.combinations("12345", 2))]


def three(names=LETTERS):
    """A net of six points, three of them tied to each of the other three."""
    return [(tie, *pair) for tie, pair in zip(names, itertools.product("123", "456"))]


def table_of_numbers(names, numbers):
    """The table whose even sets are the rows of names whose numbers come to 0 by exclusive or."""
    met = [0]
    for number in numbers:
        met = met + [one ^ number for one in met]
    return row_table(names, some_rows([at for at, one in enumerate(met) if one == 0]))


def row_table(names, numbers):
    return (list(names), [[name for at, name in enumerate(names) if number >> at & 1] for number in numbers])


def crossed_by_hand(table):
    """The crossed table, by a few rows."""
    return row_table(table[0], some_rows(crossed_evens(table[0], evens_of_table(table))))


def table_of_net(net):
    """The table of a net, by a few rows."""
    return row_table([tie for tie, one, other in net], some_rows(evens_of_net(net)))


def seven():
    return table_of_numbers(list("abcdefg"), [1, 2, 3, 4, 5, 6, 7])


def small_ones():
    """The four small tables of no net, by their kinds."""
    return {"seven": seven(), "crossed seven": crossed_by_hand(seven()),
            "five": crossed_by_hand(table_of_net(five())), "three": crossed_by_hand(table_of_net(three()))}


def new_name(names):
    return next(name for name in ("m", "a0", "z9", "n", "b7", "y", "0") if name not in names)


def grown_table(chance, table, deed):
    """A table of one name more: beside the others, in each row of another one, or as a twin of another one."""
    names, rows = table
    name, old = new_name(names), chance.choice(names)
    more = sorted(names + [name])
    if deed == "loop":
        return (more, rows + [[name]])
    if deed == "bridge":
        return (more, rows)
    if deed == "twin":
        return (more, rows + [sorted([name, old])])
    if deed == "row":
        return (more, [sorted(row + [name]) if old in row else row for row in rows])
    if deed == "some":
        return (more, [sorted(row + [name]) if chance.random() < 0.5 else row for row in rows])
    return (more, rows + [sorted([name] + [one for one in names if chance.random() < 0.5])])


def keeps_bounds(table):
    """Whether a table keeps the bounds of point 3."""
    many = len(evens_of_table(table)).bit_length() - 1
    return len(table[0]) <= 12 and len(table[1]) <= 16 and many <= 8 and len(table[0]) - many <= 8


def grown_small_ones(seed, many, deeds=("loop", "bridge", "twin", "row", "some", "any")):
    """Tables of which a small table can be left, of up to twelve names."""
    chance = random.Random(seed)
    for turn in range(many):
        table = small_ones()[chance.choice(["seven", "crossed seven", "five", "three"])]
        goal = chance.randint(len(table[0]), 12)
        while len(table[0]) < goal:
            table = grown_table(chance, table, chance.choice(deeds))
        if keeps_bounds(table):
            yield table


def tables_at_the_bounds(seed, many):
    """Tables of twelve names, four to eight of them steps, whatever else."""
    chance = random.Random(seed)
    for turn in range(many):
        names = sorted(chance.sample(list(LETTERS) + ["a1", "b2", "10", "9"], 12))
        rows = chance.choice([4, 5, 6, 7, 8])
        table = (names, [sorted(chance.sample(names, chance.choice([2, 3, 4, 5]))) for row in range(rows)])
        if keeps_bounds(table):
            yield table


def bounded_nets(nets):
    """Those of some nets that keep the bounds of point 3."""
    return [net for net in nets if len(net) <= 12 and keeps_bounds(table_of_net(net))]


def grown_net(chance, net, most):
    """A net with ties more: laid anywhere, beside another tie, or another tie parted in two."""
    goal = chance.randint(len(net), most)
    while len(net) < goal:
        places = sorted({end for tie, *ends in net for end in ends}) + ["7", "8", "x"]
        name = new_name([tie for tie, one, other in net])
        tie, one, other = chance.choice(net)
        deed = chance.choice(["lay", "beside", "part"])
        if deed == "lay":
            net = net + [(name, *sorted(chance.choices(places, k=2)))]
        elif deed == "beside":
            net = net + [(name, one, other)]
        else:
            middle = f"{name}{tie}"
            net = [part for part in net if part[0] != tie]
            net = net + [(tie, *sorted([one, middle])), (name, *sorted([middle, other]))]
        net = sorted(net)
    return net


def nets_off_the_ball(seed, many):
    """Nets of up to twelve ties that can't be laid on a ball, as they have five or three in them."""
    chance = random.Random(seed)
    return bounded_nets([grown_net(chance, chance.choice([five(), three()]), 12) for turn in range(many)])


def wheel(many):
    """A net of a ring of points, each tied to a middle one: one whole part."""
    rim = [(str(at), str((at + 1) % many)) for at in range(many)]
    return lined(rim + [(str(at), "m") for at in range(many)])


def blocks_grown(seed, many, most):
    """Nets of one block of up to so many ties."""
    chance = random.Random(seed)
    return bounded_nets([lined(grown_block(chance, most)) for turn in range(many)])
