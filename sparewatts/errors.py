"""The errors that the program raises."""


class WattsError(ValueError):
    """The base class of all errors of the program."""


class BadText(WattsError):
    """A text that cannot be read; line is the number of its first wrong line."""

    def __init__(self, line):
        super().__init__(f"line {line} of the text is wrong")
        self.line = line


class BadJournal(WattsError):
    """A journal that cannot be restored; line is the number of its first wrong line."""

    def __init__(self, line):
        super().__init__(f"line {line} of the journal is wrong")
        self.line = line


class Refused(WattsError):
    """An edit or an offer that is refused; reason is the word that says why."""

    def __init__(self, reason):
        super().__init__(f"refused: {reason}")
        self.reason = reason


class TooFast(WattsError):
    """A plan that is too fast for a machine; index is that of its first such piece."""

    def __init__(self, index):
        super().__init__(f"piece {index} is too fast")
        self.index = index
