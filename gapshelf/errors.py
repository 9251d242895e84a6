"""The refusals."""


class ShelfError(ValueError):
    pass


class Full(ShelfError):
    pass


class NoKey(ShelfError):
    pass


class BadBounds(ShelfError):
    pass


class BadDisk(ShelfError):
    pass


class NoText(ShelfError):
    pass


class NoRow(ShelfError):
    pass
