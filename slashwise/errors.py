"""The refusals of the program: one class for each, all of them under SlashError."""


class SlashError(ValueError):
    """Any refusal."""


class NoForm(SlashError):
    """What is handed in is no form, or no form of the word."""


class NoKind(SlashError):
    """What is handed in is no kind, or a term has none."""


class NoTerm(SlashError):
    """What is handed in is no term's text."""


class NoPlace(SlashError):
    """The place is none of the term's that are to be done."""


class NoRow(SlashError):
    """A book's row is not written as it must be."""

    def __init__(self, row):
        SlashError.__init__(self, f"row {row} is no row of a book there")
        self.row = row


class NoBasic(SlashError):
    """A book's row has a basic that is none of the book's."""

    def __init__(self, row):
        SlashError.__init__(self, f"row {row} has a basic that the book has not")
        self.row = row


class Twice(SlashError):
    """A book's row tells what came ahead of it."""

    def __init__(self, row):
        SlashError.__init__(self, f"row {row} tells something twice")
        self.row = row


class Misfit(SlashError):
    """A word's term in a book's row does not go with its form."""

    def __init__(self, row):
        SlashError.__init__(self, f"row {row} has a term that does not fit its form")
        self.row = row


class NoWord(SlashError):
    """The book has not this word."""

    def __init__(self, word, place):
        SlashError.__init__(self, f"the book has not the word at place {place}")
        self.word = word
        self.place = place


class NoReading(SlashError):
    """What is handed in is no reading of the sentence."""


class NoNumber(SlashError):
    """There is no reading with this number."""

    def __init__(self, number, count):
        SlashError.__init__(self, f"number {number} is none of {count}")
        self.number = number
        self.count = count


class TooMany(SlashError):
    """There are more than may be told."""

    def __init__(self, count, most):
        SlashError.__init__(self, f"{count} are more than {most}")
        self.count = count
        self.most = most
