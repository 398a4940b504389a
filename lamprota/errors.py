"""The refusals of the program."""


class LampError(ValueError):
    """Any refusal."""


class BadBook(LampError):
    """What is handed in, or written, is no book."""


class BadTicks(LampError):
    """These ticks can't be laid out in the night."""


class NoDeed(LampError):
    """A deed that can't be."""


class NoRest(LampError):
    """Behind the last night there is no rest."""


class BadRow(LampError):
    """A row of a text that writes no book; `row` is its number, from 1."""

    def __init__(self, row):
        self.row = row
