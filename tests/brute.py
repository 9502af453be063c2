"""What the document's words say, found by going through all there is; nothing of the package is used here."""

import itertools
import random

LETTERS = "abcdefghijklmnopqrstuvwxyz"


def every_row(names):
    """All rows of some names."""
    return [list(some) for many in range(len(names) + 1) for some in itertools.combinations(names, many)]


def sum_of(rows):
    """The sum of some rows, as a frozenset."""
    told = frozenset()
    for row in rows:
        told = told ^ frozenset(row)
    return told


def span(table):
    """All sums of some of the rows, as a set of frozensets."""
    told = {frozenset()}
    for row in table[1]:
        told = told | {one ^ frozenset(row) for one in told}
    return told


def crossed_span(table):
    """All rows of the names that meet each row of the span evenly."""
    evens = span(table)
    rows = [frozenset(row) for row in every_row(table[0])]
    return {row for row in rows if all(len(row & even) % 2 == 0 for even in evens)}


def in_order(sets):
    """Rows of sets of names: fewer names first, then as lists are."""
    return sorted([sorted(one) for one in sets], key=lambda row: (len(row), row))


def minimal(sets):
    """Those that aren't empty and within which no other one lies but the empty one."""
    full = [one for one in sets if one]
    return [one for one in full if not any(other < one for other in full)]


def rank_of(table, names):
    """The greatest number of the names in which no round lies."""
    found = minimal(span(table))
    return max(len(row) for row in every_row(names) if not any(one <= frozenset(row) for one in found))


def taken(names, evens, name):
    """Names and span, the name taken out."""
    return [one for one in names if one != name], {even for even in evens if name not in even}


def shrunk(names, evens, name):
    """Names and span, the name shrunk."""
    return [one for one in names if one != name], {even - {name} for even in evens}


def small_tables():
    """All tables of at most three names, each of at most three rows."""
    for many in range(4):
        names = list(LETTERS[:many])
        for count in range(4):
            for rows in itertools.product(every_row(names), repeat=count):
                yield (list(names), [list(row) for row in rows])


def chance_row(chance, names, part):
    return [name for name in names if chance.random() < part]


def chance_tables(seed, many, most_names):
    """Some tables of four names or more, always the same for the same seed."""
    chance = random.Random(seed)
    for turn in range(many):
        names = sorted(chance.sample(["a", "a1", "b", "c7", "d", "e", "f", "g", "h", "9", "10", "zz"],
                                     chance.randint(4, most_names)))
        part = chance.choice([0.2, 0.4, 0.6])
        yield (names, [chance_row(chance, names, part) for row in range(chance.randint(0, 7))])


def chance_nets(seed, many, most_ties):
    """Some nets, loops and ties beside one another among them, always the same for the same seed."""
    chance = random.Random(seed)
    for turn in range(many):
        ties = sorted(chance.sample(LETTERS, chance.randint(0, most_ties)))
        places = chance.sample(["p", "q", "a", "b", "10", "9", "zz", "t0"], chance.randint(1, 8))
        yield [(tie, *sorted(chance.choices(places, k=2))) for tie in ties]


def grown_block(chance, most):
    """Pairs of points: a tie, of which rings, bundles and wholes have grown, of not more than so many ties."""
    pairs, more = [(0, 1), (0, 1)], 2
    goal = chance.randint(2, most)
    while len(pairs) < goal:
        one, other = chance.choice(pairs)
        deed = chance.choice(["ring", "bundle", "whole"])
        if deed == "ring":
            pairs.remove((one, other))
            pairs += [(one, more), (more, other)]
        elif deed == "bundle":
            pairs += [(one, other)]
        elif len(pairs) + 4 <= most:
            pairs.remove((one, other))
            pairs += [(one, more), (one, more + 1), (more, other), (more + 1, other), (more, more + 1)]
        more += 2
    return pairs


def grown_nets(seed, many, most_ties):
    """Some nets of blocks that have grown, in one piece or several, always the same for the same seed."""
    chance = random.Random(seed)
    for turn in range(many):
        groups, room = [], most_ties
        while room > 0 and (not groups or chance.random() < 0.5):
            block = chance.choice([[(0, 0)], [(0, 1)]]) if room < 3 or chance.random() < 0.3 else \
                grown_block(chance, room)
            groups.append([(f"{len(groups)}x{one}", f"{len(groups)}x{other}") for one, other in block])
            room -= len(block)
        pairs = groups[0]
        for group in groups[1:]:
            # The first point of a further block lies on one of those ahead, or is one of its own.
            places = [group[0][0], chance.choice(chance.choice(pairs))]
            spot = chance.choice(places)
            pairs = pairs + [tuple(spot if end == places[0] else end for end in pair) for pair in group]
        chance.shuffle(pairs)
        yield [(tie, *sorted(pair)) for tie, pair in zip(LETTERS, pairs)]


def lumps(net, places):
    """The ties in lumps that hang together by other points than the places."""
    groups = [({tie}, {one, other} - set(places)) for tie, one, other in net]
    told = []
    while groups:
        ties, ends = groups.pop()
        met = [group for group in groups if group[1] & ends]
        if met:
            groups = [group for group in groups if group not in met]
            groups.append((ties.union(*[one[0] for one in met]), ends.union(*[one[1] for one in met])))
        else:
            told.append(sorted(ties))
    return sorted(told)


def chance_step(chance, net, word):
    """Something of the form of a step that can be done now and then."""
    places = sorted({end for tie, *ends in net for end in ends})
    if word == "together":
        return (word, chance.choice(places), chance.choice(places))
    spots = chance.sample(places, min(len(places), 2 if word == "turn" else 1))
    ties = sorted(tie for lump in lumps(net, spots) if chance.random() < 0.5 for tie in lump)
    return (word, ties) if word == "turn" else (word, spots[0], ties, f"n{chance.randrange(1000)}")


def net_span(net):
    """All rows of ties that each point's star meets evenly, loops not counted."""
    told = set()
    for row in every_row([tie for tie, one, other in net]):
        ends = [point for tie, one, other in net if tie in row and one != other for point in (one, other)]
        if all(ends.count(point) % 2 == 0 for point in ends):
            told.add(frozenset(row))
    return told


def blocks_of(names, evens):
    """The blocks, by putting together what some round has until nothing changes."""
    told = [{name} for name in names]
    for one in minimal(evens):
        met = [block for block in told if block & one]
        told = [block for block in told if not block & one] + [set().union(*met)]
    return sorted(sorted(block) for block in told)


def within_block(evens, block):
    """The even sets that lie in a block."""
    return {even for even in evens if even <= set(block)}


def quick_rank(evens, names):
    """The rank by counting: the even sets that lie in the names are as many as two by itself so often as steps are."""
    return len(names) + 1 - len(within_block(evens, names)).bit_length()


def is_parting(names, evens, row):
    """Whether a row parts a block of these names."""
    rest = [name for name in names if name not in row]
    if len(row) < 2 or len(rest) < 2:
        return False
    return quick_rank(evens, row) + quick_rank(evens, rest) == quick_rank(evens, names) + 1


def one_block_tables(tables):
    """The tables of the blocks of some tables."""
    for table in tables:
        evens = span(table)
        for block in blocks_of(table[0], evens):
            yield (block, in_order(within_block(evens, block)))


def other_rows(table, seed):
    """The same table by other rows of the same span."""
    chance = random.Random(seed)
    rows = [list(row) for row in table[1]]
    for turn in range(3 * len(rows)):
        one, other = chance.randrange(len(rows)), chance.randrange(len(rows))
        if one != other:
            rows[one] = sorted(sum_of([rows[one], rows[other]]))
    chance.shuffle(rows)
    return (list(table[0]), rows + [[]] + rows[:1])


def lists_in(thing):
    """All lists in a thing, itself and those within tuples and lists."""
    if not isinstance(thing, (list, tuple)):
        return []
    return ([thing] if isinstance(thing, list) else []) + [one for part in thing for one in lists_in(part)]


def spoil(thing):
    """Changes every list in a thing."""
    for one in lists_in(thing):
        one.reverse()
        one.append("spoilt")
        one.insert(0, 7)
