"""Halls and wishes read from texts."""

from seekhall.errors import NoText
from seekhall.halls import check_hall
from seekhall.words import Row


def take_cell(row):
    row.take_mark("cell")
    name = row.take_name()
    room = row.take_some_numbers()
    row.take_end()
    return (name, room)


def take_unlike(row):
    return ("unlike", row.take_some_names())


def take_many(row):
    values = row.take_numbers()
    row.take_mark("in")
    cells = row.take_some_names()
    row.take_mark("from")
    low = row.take_number()
    row.take_mark("to")
    high = row.take_number()
    return ("many", values, cells, low, high)


def take_term(row):
    factor = row.take_number()
    cell = row.take_name()
    return (factor, cell)


def take_bound(row):
    if row.peek() == "_":
        row.take_mark("_")
        return None
    return row.take_number()


def take_sum(row):
    terms = [take_term(row)]
    while row.peek() != "from":
        terms.append(take_term(row))
    row.take_mark("from")
    low = take_bound(row)
    row.take_mark("to")
    high = take_bound(row)
    return ("sum", tuple(terms), low, high)


def take_table(row):
    cells = row.take_some_names()
    row.take_mark(":")
    rows = []
    while not row.is_done():
        if len(rows) > 0:
            row.take_mark(";")
        rows.append(row.take_some_numbers())
    return ("table", cells, tuple(rows))


def take_step(row):
    state = row.take_number()
    value = row.take_number()
    following = row.take_number()
    return (state, value, following)


def take_way(row):
    cells = row.take_some_names()
    row.take_mark(":")
    steps = []
    while row.peek() != "end":
        if len(steps) > 0:
            row.take_mark(";")
        steps.append(take_step(row))
    row.take_mark("end")
    ends = row.take_numbers()
    return ("way", cells, tuple(steps), ends)


def take_behind(row):
    gap = row.take_number()
    cells = row.take_some_names()
    return ("behind", cells, gap)


PLAIN_TAKERS = {
    "unlike": take_unlike,
    "many": take_many,
    "sum": take_sum,
    "table": take_table,
    "way": take_way,
    "behind": take_behind,
}


def take_same_head(row):
    row.take_mark("same")
    cell = row.take_name()
    values = row.take_numbers()
    row.take_mark(":")
    return (cell, values)


# A text may set hundreds of sames one within another: they are gone through by a loop, not by calls within calls.
def take_wish(row):
    heads = []
    while row.peek() == "same":
        heads.append(take_same_head(row))
    sort = row.take_word()
    if sort not in PLAIN_TAKERS:
        raise NoText(row.line)
    wish = PLAIN_TAKERS[sort](row)
    row.take_end()
    for head in reversed(heads):
        wish = ("same", head[0], head[1], wish)
    return wish


def read_hall(text):
    cells = []
    wishes = []
    for line, written in enumerate(text.split("\n")):
        row = Row(written, line)
        if row.peek() == "cell":
            cells.append(take_cell(row))
        elif not row.is_done():
            wishes.append(take_wish(row))
    hall = (tuple(cells), tuple(wishes))
    check_hall(hall)
    return hall


def read_wish(text):
    # Behind a # a second row would else be passed over with the first one's rest.
    if "\n" in text:
        raise NoText(0)
    return take_wish(Row(text, 0))
