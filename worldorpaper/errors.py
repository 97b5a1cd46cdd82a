"""The errors that the program raises."""


class WorldOrPaperError(ValueError):
    """The base class of all errors of the program."""


class BadName(WorldOrPaperError):
    """A name in a signature is malformed or listed before."""


class BadArity(WorldOrPaperError):
    """An arity is not in the range 0 to 3."""


class UnknownName(WorldOrPaperError):
    """A signature does not list a name."""


class BadTerm(WorldOrPaperError):
    """A term does not fit a signature."""


class BadSentence(WorldOrPaperError):
    """A sentence does not fit a signature."""


class BadPlace(WorldOrPaperError):
    """A place does not lie in a term."""


class BadStep(WorldOrPaperError):
    """A step cannot be taken."""


class BadWorld(WorldOrPaperError):
    """Something is no world, no thing or no table of one."""


class BadOrder(WorldOrPaperError):
    """An order of terms is malformed."""


class NotOfKind(WorldOrPaperError):
    """A book is not of a kind."""


class BadDeed(WorldOrPaperError):
    """A deed cannot be done on a bench."""


class BadText(WorldOrPaperError):
    """A text cannot be read; line and column count from 1."""

    def __init__(self, line, column):
        super().__init__(f"line {line}, column {column}")
        self.line = line
        self.column = column
