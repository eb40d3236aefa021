"""The desk: a hall's text and a question, answered with a text."""

from seekhall.bests import best_of
from seekhall.counter import counted
from seekhall.errors import NoRow
from seekhall.forms import are_terms, is_name
from seekhall.halls import first_rooms
from seekhall.leasts import lessened
from seekhall.lefts import what_is_left
from seekhall.reader import read_hall
from seekhall.seeker import seek
from seekhall.swaps import cell_swaps, value_swaps
from seekhall.words import number_of


def row_of(words):
    return " ".join([str(word) for word in words])


def show_filling(hall, filling):
    return ["=".join([cell[0], str(filling[cell[0]])]) for cell in hall[0]]


def answer_seek(hall, asked):
    found = seek(hall)
    if found[0] == "none":
        return row_of(["none", len(found[1])])
    return row_of(["fits"] + show_filling(hall, found[1]))


def answer_count(hall, asked):
    return str(counted(hall)[0])


def answer_best(hall, asked):
    found = best_of(hall, asked)
    if found[0] == "none":
        return "none"
    return row_of(["best", found[2]] + show_filling(hall, found[1]))


def answer_left(hall, asked):
    return row_of(what_is_left(hall)[asked])


def answer_least(hall, asked):
    found = lessened(hall)
    if found[0] == "fits":
        return "fits"
    return row_of(["least"] + list(found[1]))


def answer_swaps(hall, asked):
    return row_of([len(cell_swaps(hall)), len(value_swaps(hall))])


ANSWERS = {
    "seek": answer_seek,
    "count": answer_count,
    "best": answer_best,
    "left": answer_left,
    "least": answer_least,
    "swaps": answer_swaps,
}


def terms_of(words):
    terms = tuple([(number_of(factor), cell) for factor, cell in zip(words[::2], words[1::2])])
    return terms if len(words) % 2 == 0 and are_terms(terms) else None


# What is asked for by the words behind the first one: terms, a cell, or nothing (); None where it is no question.
def asked_by(words):
    if words[0] == "best":
        return terms_of(words[1:])
    if words[0] == "left":
        return words[1] if len(words) == 2 and is_name(words[1]) else None
    return () if words[0] in ANSWERS and len(words) == 1 else None


def cells_asked(word, asked):
    return [asked] if word == "left" else [term[1] for term in asked]


def answer(text, question):
    words = question.split(" ")
    asked = asked_by(words)
    if asked is None:
        raise NoRow(question)
    hall = read_hall(text)
    rooms = first_rooms(hall)
    if not all([cell in rooms for cell in cells_asked(words[0], asked)]):
        raise NoRow(question)
    return ANSWERS[words[0]](hall, asked)
