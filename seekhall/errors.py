"""The refusals."""


class HallError(ValueError):
    pass


class NoHall(HallError):
    def __init__(self, word, at):
        self.word = word
        self.at = at


class NoText(HallError):
    def __init__(self, line):
        self.line = line


class NoPaper(HallError):
    def __init__(self, at):
        self.at = at


class NoRow(HallError):
    def __init__(self, text):
        self.text = text
