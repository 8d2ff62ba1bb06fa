"""The refusals of the program, each a class of its own straight under SpeakError."""


class SpeakError(ValueError):
    pass


class NoListing(SpeakError):
    def __init__(self, line, word):
        self.line = line
        self.word = word


class NoUnits(SpeakError):
    pass


class NoPlan(SpeakError):
    def __init__(self, place):
        self.place = place


class NoLevel(SpeakError):
    pass


class NoThrow(SpeakError):
    def __init__(self, place):
        self.place = place


class TooMany(SpeakError):
    pass


class NoSpread(SpeakError):
    def __init__(self, one, other):
        self.one = one
        self.other = other


class NoTurn(SpeakError):
    pass


class NoThing(SpeakError):
    pass


class NoAnswers(SpeakError):
    pass


class NoBounds(SpeakError):
    pass


class NoTable(SpeakError):
    def __init__(self, row):
        self.row = row


class NoLot(SpeakError):
    pass
