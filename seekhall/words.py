"""The words of which rows are made, and a row that is taken word by word."""

from seekhall.errors import NoText
from seekhall.forms import is_name

FIGURES = "0123456789"
MOST_FIGURES = 14


# Only the blank parts words: Python's own split would take other signs for blanks too.
def words_of(text):
    return [word for word in text.partition("#")[0].split(" ") if word != ""]


def number_of(word):
    figures = word[1:] if word.startswith("-") else word
    if not 1 <= len(figures) <= MOST_FIGURES or not all([sign in FIGURES for sign in figures]):
        return None
    if figures[0] == "0" and word != "0":
        return None
    return int(word)


class Row:
    def __init__(self, text, line):
        self.words = words_of(text)
        self.line = line
        self.place = 0

    def is_done(self):
        return self.place == len(self.words)

    # The text without signs is no word, so it stands for the end.
    def peek(self):
        return "" if self.is_done() else self.words[self.place]

    def take_word(self):
        if self.is_done():
            raise NoText(self.line)
        self.place += 1
        return self.words[self.place - 1]

    def take_mark(self, mark):
        if self.take_word() != mark:
            raise NoText(self.line)

    def take_end(self):
        if not self.is_done():
            raise NoText(self.line)

    def take_number(self):
        number = number_of(self.take_word())
        if number is None:
            raise NoText(self.line)
        return number

    def take_numbers(self):
        numbers = []
        while number_of(self.peek()) is not None:
            numbers.append(self.take_number())
        return tuple(numbers)

    def take_some_numbers(self):
        first = self.take_number()
        return (first,) + self.take_numbers()

    def take_name(self):
        name = self.take_word()
        if not is_name(name):
            raise NoText(self.line)
        return name

    def take_some_names(self):
        names = [self.take_name()]
        while is_name(self.peek()):
            names.append(self.take_name())
        return tuple(names)
