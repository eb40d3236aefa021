"""What names, values and wishes are, by their form alone."""

MARKS = ("in", "from", "to", "end")
LONGEST_NAME = 8

MOST_CELLS = 12
MOST_TERMS = 6
MOST_VALUES = 60
MOST_ROWS = 60
MOST_STEPS = 60

GREATEST_VALUE = 1000000
GREATEST_STATE = 20
GREATEST_MANY = 1000000000
GREATEST_GAP = 1000000000
GREATEST_BOUND = 10000000000000


def is_number(thing):
    # Python takes a truth for a number; here it is none.
    return isinstance(thing, int) and not isinstance(thing, bool)


def is_whole(thing, least, greatest):
    return is_number(thing) and least <= thing <= greatest


def is_value(thing):
    return is_whole(thing, -GREATEST_VALUE, GREATEST_VALUE)


def is_state(thing):
    return is_whole(thing, 0, GREATEST_STATE)


def is_name(thing):
    if not isinstance(thing, str) or not 1 <= len(thing) <= LONGEST_NAME:
        return False
    return thing not in MARKS and all(["a" <= sign <= "z" for sign in thing])


def is_tuple_of(thing, is_one, least, most):
    return isinstance(thing, tuple) and least <= len(thing) <= most and all([is_one(one) for one in thing])


# Asked only of things known to be names, values or tuples of them: of others 1 and True would count as one.
def are_unlike(things):
    return len(set(things)) == len(things)


def are_names(thing):
    return is_tuple_of(thing, is_name, 1, MOST_CELLS) and are_unlike(thing)


def are_values(thing):
    return is_tuple_of(thing, is_value, 0, MOST_VALUES) and are_unlike(thing)


def is_unlike(wish):
    return len(wish) == 2 and are_names(wish[1])


def is_many_bound(thing):
    return is_whole(thing, 0, GREATEST_MANY)


def is_many(wish):
    return (len(wish) == 5 and are_values(wish[1]) and are_names(wish[2])
            and is_many_bound(wish[3]) and is_many_bound(wish[4]))


def is_term(thing):
    return isinstance(thing, tuple) and len(thing) == 2 and is_value(thing[0]) and thing[0] != 0 and is_name(thing[1])


def is_sum_bound(thing):
    return thing is None or is_whole(thing, -GREATEST_BOUND, GREATEST_BOUND)


def are_terms(thing):
    return is_tuple_of(thing, is_term, 1, MOST_TERMS) and are_unlike([term[1] for term in thing])


def is_sum(wish):
    return len(wish) == 4 and are_terms(wish[1]) and is_sum_bound(wish[2]) and is_sum_bound(wish[3])


def are_rows(thing, length):
    def is_row(one):
        return is_tuple_of(one, is_value, length, length)
    return is_tuple_of(thing, is_row, 0, MOST_ROWS) and are_unlike(thing)


def is_table(wish):
    return len(wish) == 3 and are_names(wish[1]) and are_rows(wish[2], len(wish[1]))


def is_step(thing):
    return (isinstance(thing, tuple) and len(thing) == 3
            and is_state(thing[0]) and is_value(thing[1]) and is_state(thing[2]))


def are_steps(thing):
    return is_tuple_of(thing, is_step, 0, MOST_STEPS) and are_unlike([step[:2] for step in thing])


def are_ends(thing):
    return is_tuple_of(thing, is_state, 0, GREATEST_STATE + 1) and are_unlike(thing)


def is_way(wish):
    return len(wish) == 4 and are_names(wish[1]) and are_steps(wish[2]) and are_ends(wish[3])


def is_behind(wish):
    return len(wish) == 3 and are_names(wish[1]) and is_whole(wish[2], -GREATEST_GAP, GREATEST_GAP)


# Same stands apart: so a same within a same is refused without looking at what lies in it, however deep.
PLAIN_FORMS = {
    "unlike": is_unlike,
    "many": is_many,
    "sum": is_sum,
    "table": is_table,
    "way": is_way,
    "behind": is_behind,
}


def sort_of(thing):
    if isinstance(thing, tuple) and len(thing) > 0 and isinstance(thing[0], str):
        return thing[0]
    return None


def is_plain_wish(thing):
    sort = sort_of(thing)
    return sort in PLAIN_FORMS and PLAIN_FORMS[sort](thing)


def is_same(wish):
    return (len(wish) == 4 and is_name(wish[1]) and are_values(wish[2])
            and is_plain_wish(wish[3]) and wish[1] not in cells_of(wish[3]))


def is_wish(thing):
    if sort_of(thing) == "same":
        return is_same(thing)
    return is_plain_wish(thing)


def plain_cells_of(wish):
    if wish[0] == "sum":
        return tuple([term[1] for term in wish[1]])
    if wish[0] == "many":
        return wish[2]
    return wish[1]


def cells_of(wish):
    own = []
    inner = wish
    while inner[0] == "same":
        own.append(inner[1])
        inner = inner[3]
    return tuple(own) + plain_cells_of(inner)
