"""Halls and wishes written as texts."""


def number_words(numbers):
    return [str(number) for number in numbers]


def parted_words(rows):
    words = []
    for row in rows:
        if len(words) > 0:
            words.append(";")
        words.extend(number_words(row))
    return words


def bound_word(bound):
    return "_" if bound is None else str(bound)


def cell_words(cell):
    return ["cell", cell[0]] + number_words(cell[1])


def unlike_words(wish):
    return ["unlike"] + list(wish[1])


def many_words(wish):
    return ["many"] + number_words(wish[1]) + ["in"] + list(wish[2]) + ["from", str(wish[3]), "to", str(wish[4])]


def sum_words(wish):
    words = ["sum"]
    for term in wish[1]:
        words.extend([str(term[0]), term[1]])
    return words + ["from", bound_word(wish[2]), "to", bound_word(wish[3])]


def table_words(wish):
    return ["table"] + list(wish[1]) + [":"] + parted_words(wish[2])


def way_words(wish):
    return ["way"] + list(wish[1]) + [":"] + parted_words(wish[2]) + ["end"] + number_words(wish[3])


def behind_words(wish):
    return ["behind", str(wish[2])] + list(wish[1])


def same_head_words(wish):
    return ["same", wish[1]] + number_words(wish[2]) + [":"]


PLAIN_WRITERS = {
    "unlike": unlike_words,
    "many": many_words,
    "sum": sum_words,
    "table": table_words,
    "way": way_words,
    "behind": behind_words,
}


# What the reader told may have hundreds of sames one within another: a loop goes through them, as there.
def show_wish(wish):
    words = []
    inner = wish
    while inner[0] == "same":
        words.extend(same_head_words(inner))
        inner = inner[3]
    return " ".join(words + PLAIN_WRITERS[inner[0]](inner))


def show_hall(hall):
    cells = [" ".join(cell_words(cell)) for cell in hall[0]]
    wishes = [show_wish(wish) for wish in hall[1]]
    return "\n".join(cells + wishes)
