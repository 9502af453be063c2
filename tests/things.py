"""Any things, and things with something changed, by chance that is always the same for the same seed."""

PLAIN = [0, 1, 2, 7, -3, True, False, None, "", "a", "b", "p", "-", "a b", "sevenup", "A", "net", "small", "seven",
         "five", "turn", "apart", "together", "lay", "take", "zz9"]


def any_thing(chance, deep):
    """Any thing, at most so deep."""
    if deep == 0 or chance.random() < 0.4:
        return chance.choice(PLAIN)
    things = [any_thing(chance, deep - 1) for turn in range(chance.randrange(6))]
    return things if chance.random() < 0.5 else tuple(things)


def places_in(thing, path=()):
    """The ways to all that a thing holds, itself among it."""
    told = [path]
    if isinstance(thing, (list, tuple)):
        for at, part in enumerate(thing):
            told += places_in(part, (*path, at))
    return told


def at_place(thing, path):
    for at in path:
        thing = thing[at]
    return thing


def put_at(thing, path, new):
    """The thing with another one at a place; all else is copied."""
    if not path:
        return new
    parts = [put_at(part, path[1:], new) if at == path[0] else part for at, part in enumerate(thing)]
    return parts if isinstance(thing, list) else tuple(parts)


def changed_list(chance, parts, deep):
    """A list with a thing less, more, twice, or two changed about."""
    at = chance.randrange(len(parts)) if parts else 0
    deed = chance.choice(["less", "more", "twice", "about", "turned"])
    if deed == "less":
        return parts[:at] + parts[at + 1:]
    if deed == "more":
        return parts[:at] + [any_thing(chance, deep)] + parts[at:]
    if deed == "twice":
        return parts[:at + 1] + parts[at:]
    if deed == "turned":
        return parts[::-1]
    other = chance.randrange(len(parts)) if parts else 0
    return [parts[{at: other, other: at}.get(place, place)] for place in range(len(parts))]


def changed(chance, thing, stock=()):
    """The thing with one place of it changed; texts often to another one of the stock."""
    path = chance.choice(places_in(thing))
    old = at_place(thing, path)
    if isinstance(old, (list, tuple)) and chance.random() < 0.8:
        kind = type(old) if chance.random() < 0.85 else {list: tuple, tuple: list}[type(old)]
        return put_at(thing, path, kind(changed_list(chance, list(old), 2) if chance.random() < 0.85 else old))
    if isinstance(old, int) and chance.random() < 0.8:
        return put_at(thing, path, chance.choice([old + 1, old - 1, bool(old), 1, 2, 4]))
    if stock and isinstance(old, str) and chance.random() < 0.8:
        return put_at(thing, path, chance.choice(stock))
    return put_at(thing, path, any_thing(chance, 3))
