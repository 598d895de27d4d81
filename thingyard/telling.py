"""The told text of a recipe."""


# The one token by which a part without parts in it is told.
def bare_told(part):
    if part[0] == "text":
        return '"' + part[1] + '"'
    if part[0] == "stem":
        return "*"
    if part[0] == "thing":
        return part[1]
    if part[0] == "kin":
        return part[1] + ".*"
    return part[0]


# The tokens of a part, in order, with the parts in it still as they are.
def told_steps(part):
    kind = part[0]
    if kind in ("text", "line", "it", "stem", "thing", "kin"):
        return [bare_told(part)]
    if kind == "join":
        return ["("] + list(part[1:]) + [")"]
    if kind == "if":
        return ["if", part[1], "is", part[2], "then", part[3], "else", part[4]]
    if kind == "each":
        return ["each", part[1], "do", part[2]]
    return [kind, part[1]]


def told_tokens(tree):
    # The whole recipe has no brackets around it, even where it is a join.
    todo = list(reversed(tree[1:])) if tree[0] == "join" else [tree]
    tokens = []
    while len(todo) > 0:
        step = todo.pop()
        if isinstance(step, str):
            tokens.append(step)
        else:
            todo.extend(list(reversed(told_steps(step))))
    return tokens


def told_recipe(tree):
    pieces = []
    behind = "("
    for token in told_tokens(tree):
        if behind != "(" and token != ")":
            pieces.append(" ")
        pieces.append(token)
        behind = token
    return "".join(pieces)
