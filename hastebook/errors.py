"""The refusals of the program, each by a name of its own."""


class BookError(ValueError):
    pass


class NoOrder(BookError):
    pass


class NoRoom(BookError):
    pass


class NoRow(BookError):
    pass


class NoName(BookError):
    pass


class NoText(BookError):
    pass
