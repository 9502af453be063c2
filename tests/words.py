"""The words of points 20, 22, 30, 31 and 32, done by hand; nothing of the package is used here."""

import re

from tests.papers import is_name, is_net, is_row, is_tuple, keeps_bounds, star_of, table_of_net

NAME = "[a-z0-9]{1,6}"
ROW = f"(?:-|{NAME}(?: {NAME})*)"
TIE = f"{NAME} {NAME} {NAME}"


def places_of(net):
    return sorted({end for tie, *ends in net for end in ends})


def ends_at(net, ties):
    return {point for tie, one, other in net if tie in ties for point in (one, other)}


def in_common(net, ties):
    return ends_at(net, ties) & ends_at(net, [tie for tie, one, other in net if tie not in ties])


def renamed(net, ties, calls):
    return [(tie, *sorted(calls.get(end, end) for end in ends)) if tie in ties else (tie, *ends)
            for tie, *ends in net]


def hung_with(net, point):
    """All points that hang together with one."""
    told = {point}
    for turn in net:
        told |= {end for tie, *ends in net if set(ends) & told for end in ends}
    return told


def word_turn(net, ties):
    """The net behind a turn by the words, or None."""
    shared = in_common(net, ties)
    if len(shared) != 2:
        return None
    one, other = shared
    return renamed(net, ties, {one: other, other: one})


def word_apart(net, point, ties, new):
    if in_common(net, ties) != {point} or new in places_of(net):
        return None
    return renamed(net, ties, {point: new})


def word_together(net, point, other):
    if point not in places_of(net) or other not in places_of(net) or other in hung_with(net, point):
        return None
    return renamed(net, [tie for tie, one, two in net], {other: point})


def are_ties(net, thing):
    return is_row(thing) and set(thing) <= {tie for tie, one, other in net}


def word_step(net, thing):
    """The net behind any thing as a step, or None."""
    if is_tuple(thing, 2) and thing[0] == "turn" and are_ties(net, thing[1]):
        return word_turn(net, thing[1])
    if is_tuple(thing, 4) and thing[0] == "apart" and are_ties(net, thing[2]):
        return word_apart(net, *thing[1:]) if is_name(thing[1]) and is_name(thing[3]) else None
    if is_tuple(thing, 3) and thing[0] == "together" and is_name(thing[1]) and is_name(thing[2]):
        return word_together(net, *thing[1:])
    return None


def leads(one, other, thing):
    """Whether any thing is a list of at most four hundred steps that lead the one net to the other."""
    if not isinstance(thing, list) or len(thing) > 400:
        return False
    net = one
    for step in thing:
        net = word_step(net, step)
        if net is None:
            return False
    return sorted(star_of(net, point) for point in places_of(net)) == sorted(
        star_of(other, point) for point in places_of(other))


def is_bounded(net):
    return len(net) <= 12 and keeps_bounds(table_of_net(net))


def word_bench(thing):
    """What is told of any thing that a bench is handed: the refusal, or None."""
    if not is_net(thing):
        return "NoNet"
    return None if is_bounded(thing) else "TooMany"


def word_lay(net, tie, point, other):
    if not is_name(tie) or not is_name(point) or not is_name(other) or tie in [one[0] for one in net]:
        return "NoTie"
    told = sorted(net + [(tie, *sorted([point, other]))])
    return told if is_bounded(told) else "TooMany"


def word_take(net, name):
    if name not in [tie for tie, one, other in net]:
        return "NoTie"
    return [tie for tie in net if tie[0] != name]


def word_shrink(net, name):
    rest = word_take(net, name)
    if rest == "NoTie":
        return rest
    low, high = next((one, other) for tie, one, other in net if tie == name)
    return [(tie, *sorted(low if end == high else end for end in ends)) for tie, *ends in rest]


def word_deed(net, thing):
    """The net behind any thing as a deed, or the refusal."""
    if is_tuple(thing, 4) and thing[0] == "lay":
        return word_lay(net, *thing[1:])
    if is_tuple(thing, 2) and thing[0] == "take":
        return word_take(net, thing[1])
    if is_tuple(thing, 2) and thing[0] == "shrink":
        return word_shrink(net, thing[1])
    told = word_step(net, thing)
    return "NoStep" if told is None else told


def row_written(text):
    return [] if text == "-" else text.split(" ")


def table_written(text):
    """The table that any thing is the text of, or the refusal."""
    if not isinstance(text, str) or not re.fullmatch(f"{ROW}(?: / {ROW})*", text):
        return "NoText"
    names, *rows = map(row_written, text.split(" / "))
    if not all(row == sorted(set(row)) and set(row) <= set(names) for row in [names, *rows]):
        return "NoText"
    if len(names) > 12 or len(rows) > 16:
        return "TooMany"
    return (names, rows) if keeps_bounds((names, rows)) else "TooMany"


def net_written(text):
    """The net that any thing is the text of, or the refusal."""
    if not isinstance(text, str) or not re.fullmatch(f"-|{TIE}(?:, {TIE})*", text):
        return "NoText"
    net = [] if text == "-" else [tuple(tie.split(" ")) for tie in text.split(", ")]
    if not is_net(net):
        return "NoText"
    return net if is_bounded(net) else "TooMany"
