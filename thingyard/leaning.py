"""What leans on what, by what each name needs right away."""


# From each name to those that need it, each once.
def needers_of(needs):
    needers = {}
    for name in needs:
        for needed in needs[name]:
            if needed not in needers:
                needers[needed] = {}
            needers[needed][name] = True
    return needers


def names_of(needs):
    names = dict([(name, True) for name in needs])
    for name in needs:
        for needed in needs[name]:
            names[needed] = True
    return sorted(names)


def leaners(needs, names):
    needers = needers_of(needs)
    leaning = {}
    todo = list(names)
    while len(todo) > 0:
        name = todo.pop()
        for needer in needers.get(name, {}):
            if needer not in leaning:
                leaning[needer] = True
                todo.append(needer)
    return sorted(leaning)


# Rank by rank from below: a name is ranked when the last one that it needs has been.
def ranks(needs):
    needers = needers_of(needs)
    ranked = dict([(name, None) for name in names_of(needs)])
    missing = dict([(name, len(set(needs.get(name, [])))) for name in ranked])
    level = [name for name in ranked if missing[name] == 0]
    rank = 0
    while len(level) > 0:
        above = []
        for name in level:
            ranked[name] = rank
            for needer in needers.get(name, {}):
                missing[needer] -= 1
                if missing[needer] == 0:
                    above.append(needer)
        level = above
        rank += 1
    return ranked


def waves(needs):
    ranked = ranks(needs)
    found = []
    for name in ranked:
        rank = ranked[name]
        if rank is not None:
            found.extend([[] for more in range(rank + 1 - len(found))])
            found[rank].append(name)
    return found
