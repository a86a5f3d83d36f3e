"""The errors by which things are refused, one class for each refusal."""


class PourError(ValueError):
    pass


class NoRoom(PourError):
    pass


class NoWidth(PourError):
    pass


class NoDrives(PourError):
    pass


class NoPlace(PourError):
    pass


class NoDrive(PourError):
    pass


class NoPhase(PourError):
    pass


class NoShelf(PourError):
    pass


class NoLine(PourError):
    pass


class TooMany(PourError):
    pass


class NoRow(PourError):
    def __init__(self, at):
        self.at = at


class NotRising(PourError):
    def __init__(self, at):
        self.at = at


class NoTrace(PourError):
    def __init__(self, word, at):
        self.word = word
        self.at = at


class Bare(PourError):
    def __init__(self, drive):
        self.drive = drive
