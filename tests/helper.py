"""What several tests use: wishes of all sorts, fillings gone through one by one, and point 4 in other words."""

import itertools

from seekhall.forms import cells_of

LETTERS = "abcdefghijklmnopqrstuvwxyz"
NAMES = tuple(LETTERS)
FORTY = ["c" + first + second for first, second in itertools.product("abcde", "abcdefgh")]
FAR = 10 ** 6
TEN = tuple(range(10))
GREATEST_STEPS = tuple((state, value, 20 - state) for state in range(20, 17, -1) for value in range(20))

ORDINARY = {
    "unlike": ("unlike", ("a", "b", "c")),
    "many": ("many", (1, 3), ("b", "a"), 1, 2),
    "sum": ("sum", ((2, "a"), (-3, "b")), -4, 5),
    "table": ("table", ("b", "a"), ((1, 2), (2, 1), (-3, 3))),
    "way": ("way", ("a", "b"), ((0, 1, 1), (0, 2, 2), (1, 2, 2)), (2, 0)),
    "behind": ("behind", ("c", "a", "b"), -1),
    "same": ("same", "c", (2, 1), ("unlike", ("b", "a"))),
}

GREATEST = {
    "unlike": ("unlike", NAMES[:12]),
    "many": ("many", tuple(range(FAR, FAR - 60, -1)), NAMES[:12], 10 ** 9, 10 ** 9),
    "sum": ("sum", tuple((FAR, name) for name in NAMES[:6]), -(10 ** 13), 10 ** 13),
    "table": ("table", NAMES[:12], tuple((-FAR + row,) * 12 for row in range(60))),
    "way": ("way", NAMES[:12], GREATEST_STEPS, tuple(range(21))),
    "behind": ("behind", NAMES[:12], 10 ** 9),
    "same": ("same", "z", tuple(range(-FAR, -FAR + 60)), ("unlike", NAMES[:12])),
}

LEAST = {
    "unlike": ("unlike", ("a",)),
    "many": ("many", (), ("a",), 0, 0),
    "sum": ("sum", ((-FAR, "a"),), None, None),
    "table": ("table", ("a",), ()),
    "way": ("way", ("a",), (), ()),
    "behind": ("behind", ("a",), -(10 ** 9)),
    "same": ("same", "z", (), ("behind", ("a",), 0)),
}

# Cells may be called like the words with which rows begin.
ROW_WORDS = ("cell", "unlike", "many", "sum", "table", "way", "behind", "same")
WORDY = {
    "unlike": ("unlike", ("unlike", "cell")),
    "many": ("many", (1,), ("many", "same"), 0, 1),
    "sum": ("sum", ((1, "sum"), (-1, "table")), None, 0),
    "table": ("table", ("table", "way"), ((1, 2),)),
    "way": ("way", ("way", "sum"), ((0, 1, 0),), (0,)),
    "behind": ("behind", ("behind", "many"), 0),
    "same": ("same", "same", (1,), ("table", ("table", "cell"), ((1, 1), (2, 2)))),
}


def sample_wishes():
    return [wish for group in (ORDINARY, GREATEST, LEAST, WORDY) for wish in group.values()]


def every_filling(rooms):
    names = list(rooms)
    for values in itertools.product(*[rooms[name] for name in names]):
        yield dict(zip(names, values))


def raised(error, call, *handed):
    """The error that the call raises, or None; of another class it goes on."""
    try:
        call(*handed)
    except error as refusal:
        return refusal
    return None


def kept_by_the_words(wish, filling):
    """Point 4 once more, told otherwise than the program tells it."""
    sort = wish[0]
    if sort == "unlike":
        return all(filling[x] != filling[y] for x, y in itertools.combinations(wish[1], 2))
    if sort == "many":
        return sum(filling[cell] in wish[1] for cell in wish[2]) in range(wish[3], wish[4] + 1)
    if sort == "sum":
        total = 0
        for factor, cell in wish[1]:
            total += factor * filling[cell]
        return not (wish[2] is not None and total < wish[2]) and not (wish[3] is not None and total > wish[3])
    if sort == "table":
        return any(all(filling[cell] == value for cell, value in zip(wish[1], row)) for row in wish[2])
    if sort == "way":
        states = {0}
        for cell in wish[1]:
            states = {step[2] for step in wish[2] if step[0] in states and step[1] == filling[cell]}
        return any(state in states for state in wish[3])
    if sort == "behind":
        found = [filling[cell] for cell in wish[1]]
        return all(found[place] - found[place - 1] >= wish[2] for place in range(1, len(found)))
    return (filling[wish[1]] in wish[2]) is kept_by_the_words(wish[3], filling)


SORTS = ("unlike", "many", "sum", "table", "way", "behind", "same")


def random_wish(chance, names, sorts=SORTS):
    cells = tuple(chance.sample(names, chance.randint(1, len(names) - 1)))
    values = tuple(chance.sample(range(-2, 4), chance.randint(0, 4)))
    sort = chance.choice(sorts)
    if sort == "unlike":
        return (sort, cells)
    if sort == "many":
        return (sort, values, cells, chance.randint(0, 3), chance.randint(0, 3))
    if sort == "sum":
        terms = tuple((chance.choice((-3, -1, 1, 2)), cell) for cell in cells)
        return (sort, terms, chance.choice((None, -3, 0, 2)), chance.choice((None, -1, 0, 3)))
    if sort == "table":
        every = list(itertools.product(range(-2, 4), repeat=len(cells)))
        return (sort, cells, tuple(chance.sample(every, chance.randint(0, 6))))
    if sort == "way":
        every = list(itertools.product(range(3), range(-2, 4)))
        steps = tuple(pair + (chance.randint(0, 2),) for pair in chance.sample(every, chance.randint(0, 18)))
        return (sort, cells, steps, tuple(chance.sample(range(3), chance.randint(0, 3))))
    if sort == "behind":
        return (sort, cells, chance.randint(-2, 2))
    inner = tuple(name for name in names if name != cells[0])
    return (sort, cells[0], values, random_wish(chance, inner, SORTS[:6]))


def random_rooms(chance, names, most):
    return {name: tuple(sorted(chance.sample(range(-2, 4), chance.randint(1, most)))) for name in names}


def told_by_all(wish, rooms):
    """Whether the wish may be kept and may be broken, by going through all fillings of its cells."""
    answers = {kept_by_the_words(wish, filling) for filling in every_filling({cell: rooms[cell] for cell in cells_of(wish)})}
    return True in answers, False in answers


def random_clause(chance, rooms, most, outside=()):
    """A clause of cells and values of these rooms, or of values that are perhaps in none."""
    names = sorted(rooms)
    literals = set()
    for turn in range(chance.randint(0, most)):
        name = chance.choice(names)
        literals.add((name, chance.choice(("is", "not")), chance.choice(rooms[name] + tuple(outside))))
    return tuple(sorted(literals))


def holds_by_the_words(clause, filling):
    """Point 8 once more."""
    return any((filling[cell] == value) is (word == "is") for cell, word, value in clause)


def follows_by_all(wish, clause, rooms):
    """Point 9 by going through all fillings of the rooms' cells."""
    return all(holds_by_the_words(clause, filling) for filling in every_filling(rooms) if kept_by_the_words(wish, filling))


def by_units_by_the_words(rooms, clauses):
    """Point 10 by going round clause by clause, over sets."""
    left = {name: set(room) for name, room in rooms.items()}
    changed = True
    while changed:
        changed = False
        for clause in clauses:
            able = []
            for cell, word, value in clause:
                by_it = left[cell] & {value} if word == "is" else left[cell] - {value}
                if by_it:
                    able.append((cell, by_it))
            if not able:
                return None
            if len(able) == 1 and left[able[0][0]] != able[0][1]:
                left[able[0][0]] = able[0][1]
                changed = True
    return {name: tuple(sorted(room)) for name, room in left.items()}
