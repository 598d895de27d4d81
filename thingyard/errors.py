"""The refusals: all of them are YardErrors, none of the six is another one."""


class YardError(ValueError):
    pass


class BadText(YardError):
    pass


class BadName(YardError):
    pass


class BadRecipe(YardError):
    def __init__(self, place):
        self.place = place


class BadBook(YardError):
    def __init__(self, row, place):
        self.row = row
        self.place = place


class BadBound(YardError):
    pass


class NoThing(YardError):
    pass
