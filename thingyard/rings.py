"""Rings: names each of which needs the next one, and the last one the first."""


def turned(ring):
    place = ring.index(min(ring))
    return ring[place:] + ring[:place]


def ring_from(nexts, name):
    # From each name that was passed to its place on the way.
    passed = {}
    while name in nexts and name not in passed:
        passed[name] = len(passed)
        name = nexts[name]
    if name not in passed:
        return []
    return turned(list(passed)[passed[name]:])


def is_row_of_names(thing):
    if not isinstance(thing, list) or len(thing) == 0:
        return False
    if not all([isinstance(name, str) for name in thing]):
        return False
    return len(set(thing)) == len(thing)


def is_ring(needs, names):
    if not is_row_of_names(names) or names[0] != min(names):
        return False
    behind = names[1:] + names[:1]
    return all([other in needs.get(name, []) for name, other in zip(names, behind)])
