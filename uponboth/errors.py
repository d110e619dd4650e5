"""The errors of the package."""


class TermError(ValueError):
    """The base of every error of the package."""


class InvalidText(TermError):
    """A text cannot be read; position is the index of the first wrong character."""

    def __init__(self, position):
        super().__init__(f"the text is wrong at position {position}")
        self.position = position


class TooLarge(TermError):
    """A result would be too large; size says how large."""

    def __init__(self, size):
        # The size may have more digits than Python writes out, so the message leaves it out.
        super().__init__("the result would be too large")
        self.size = size


class InvalidStep(TermError):
    """A step or a move does not apply; position is its index in the list."""

    def __init__(self, position):
        super().__init__(f"the step at position {position} does not apply")
        self.position = position


class DuplicateName(TermError):
    """A name or a label exists already."""

    def __init__(self, name):
        super().__init__(f"the name {name} exists already")
        self.name = name


class UnknownName(TermError):
    """A name or a label does not exist."""

    def __init__(self, name):
        super().__init__(f"the name {name} does not exist")
        self.name = name


class InvalidCommand(TermError):
    """A tuple is not a command; position is its index in the batch."""

    def __init__(self, position):
        super().__init__(f"there is no command at position {position}")
        self.position = position


class InvalidSnapshot(TermError):
    """A text is not a snapshot; row is the index of the first wrong row."""

    def __init__(self, row):
        super().__init__(f"row {row} of the snapshot is wrong")
        self.row = row


class InvalidTerm(TermError):
    """A nested tuple is not a term within the bounds."""


class InvalidPath(TermError):
    """A text is not a path."""


class PathNotFound(TermError):
    """A path leads below a generator."""


class NotRewritable(TermError):
    """A subterm does not have the form that a step needs."""


class InvalidSize(TermError):
    """A size is out of its range."""


class InvalidIndex(TermError):
    """An index is out of its range."""


class InvalidWord(TermError):
    """A tuple of integers is not a word."""


class InvalidElement(TermError):
    """A number is not an element of a table."""


class InvalidModel(TermError):
    """A tuple of rows is not a model."""


class NestingTooDeep(TermError):
    """Brackets are nested too deep."""


class InvalidLabel(TermError):
    """A text is not a label."""


class LimitReached(TermError):
    """There would be too many labels or definitions."""


class EmptyHistory(TermError):
    """There is nothing to undo or to redo."""
