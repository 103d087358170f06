"""The errors of this package, each with the fields that tell what is wrong."""


class TalkError(ValueError):
    """What all errors of this package have in common."""


class InvalidNumber(TalkError):
    """This thing is not a number that may stand in its place."""

    def __init__(self, thing):
        self.thing = thing


class InvalidTable(TalkError):
    """The table of this name is none (row None), or is wrong in this row."""

    def __init__(self, name, row):
        self.name = name
        self.row = row


class InvalidProgram(TalkError):
    """This thing is not a program of the kind that is wanted, or does not name one."""

    def __init__(self, thing):
        self.thing = thing


class InvalidPair(TalkError):
    """This thing is not a pair of programs."""

    def __init__(self, thing):
        self.thing = thing


class InvalidEvent(TalkError):
    """The item at this place is not an event; with None: the thing itself is wrong."""

    def __init__(self, place):
        self.place = place


class InvalidExcusing(TalkError):
    """This thing does not tell which programs excuse."""

    def __init__(self, thing):
        self.thing = thing


class NotSettled(TalkError):
    """The run is not settled."""


class KeepsSomething(TalkError):
    """The program of this name keeps something over crashes."""

    def __init__(self, program):
        self.program = program


class UnlikePrograms(TalkError):
    """The numbers of values or of messages of two programs differ."""


class NotPossible(TalkError):
    """The event at this place is not possible behind those ahead of it."""

    def __init__(self, place):
        self.place = place


class NothingDone(TalkError):
    """There is no event that could be taken back."""
