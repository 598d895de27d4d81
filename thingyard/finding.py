"""A thing's rule: in one book, and in one book after the other."""

from thingyard.signs import family_of, stem_of


def tree_under(book, wanted):
    for head, tree in book[0]:
        if head == wanted:
            return tree
    return None


def rule_in(book, name):
    tree = tree_under(book, name)
    if tree is not None:
        return (tree, None)
    family = family_of(name)
    if family is None:
        return None
    tree = tree_under(book, family + ".*")
    if tree is None:
        return None
    return (tree, stem_of(name))


# Which book's thing comes next is left to the asker: the texts behind the names are not known here.
class Search:
    def __init__(self, name, book):
        self.name = name
        self.rule = None
        self.mores = []
        self.look_in(book)

    def look_in(self, book):
        self.rule = rule_in(book, self.name)
        for more in book[1]:
            if more not in self.mores:
                self.mores.append(more)
