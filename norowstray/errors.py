"""The errors that the package raises."""


class TableError(ValueError):
    """The base class of all errors of the package."""


class InvalidScheme(TableError):
    """The scheme is not a non-empty tuple of widths."""


class InvalidBook(TableError):
    """The book is not right for the scheme."""


class InvalidStore(TableError):
    """The store is not one of the scheme."""


class BadText(TableError):
    """A line of a text, numbered from 1, is not of its form."""

    def __init__(self, line):
        super().__init__("a line of the text is not of its form")
        self.line = line


class NoTable(TableError):
    """There is no such table."""


class NoRow(TableError):
    """The row is not there."""


class DoubledRow(TableError):
    """The row is there already."""


class NoDependency(TableError):
    """The book has no dependency with this number."""


class Breach(TableError):
    """The store does not keep the dependency with this number, as the rows show."""

    def __init__(self, index, rows):
        super().__init__("the store does not keep a dependency of the book")
        self.index = index
        self.rows = rows


class InvalidQuestion(TableError):
    """The question has no atom, or a variable of its head is in no atom."""


class NothingToUndo(TableError):
    """No deed is left to be undone."""


class NothingToRedo(TableError):
    """No undone deed is left to be done again."""
