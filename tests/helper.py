"""What several tests use: wishes of all sorts, fillings gone through one by one, and point 4 in other words."""

import itertools
import random
import unittest

from seekhall.forms import cells_of
from seekhall.nones import check_none

LETTERS = "abcdefghijklmnopqrstuvwxyz"
NAMES = tuple(LETTERS)
FORTY = ["c" + first + second for first, second in itertools.product("abcde", "abcdefgh")]
FAR = 10 ** 6
TEN = tuple(range(10))
GREATEST_STEPS = tuple((state, value, 20 - state) for state in range(20, 17, -1) for value in range(20))

ORDINARY = {
    "unlike": ("unlike", ("a", "b", "c")),
    "many": ("many", (1, 3), ("b", "a"), 1, 2),
    "sum": ("sum", ((2, "a"), (-3, "b")), -4, 5),
    "table": ("table", ("b", "a"), ((1, 2), (2, 1), (-3, 3))),
    "way": ("way", ("a", "b"), ((0, 1, 1), (0, 2, 2), (1, 2, 2)), (2, 0)),
    "behind": ("behind", ("c", "a", "b"), -1),
    "same": ("same", "c", (2, 1), ("unlike", ("b", "a"))),
}

GREATEST = {
    "unlike": ("unlike", NAMES[:12]),
    "many": ("many", tuple(range(FAR, FAR - 60, -1)), NAMES[:12], 10 ** 9, 10 ** 9),
    "sum": ("sum", tuple((FAR, name) for name in NAMES[:6]), -(10 ** 13), 10 ** 13),
    "table": ("table", NAMES[:12], tuple((-FAR + row,) * 12 for row in range(60))),
    "way": ("way", NAMES[:12], GREATEST_STEPS, tuple(range(21))),
    "behind": ("behind", NAMES[:12], 10 ** 9),
    "same": ("same", "z", tuple(range(-FAR, -FAR + 60)), ("unlike", NAMES[:12])),
}

LEAST = {
    "unlike": ("unlike", ("a",)),
    "many": ("many", (), ("a",), 0, 0),
    "sum": ("sum", ((-FAR, "a"),), None, None),
    "table": ("table", ("a",), ()),
    "way": ("way", ("a",), (), ()),
    "behind": ("behind", ("a",), -(10 ** 9)),
    "same": ("same", "z", (), ("behind", ("a",), 0)),
}

# Cells may be called like the words with which rows begin.
ROW_WORDS = ("cell", "unlike", "many", "sum", "table", "way", "behind", "same")
WORDY = {
    "unlike": ("unlike", ("unlike", "cell")),
    "many": ("many", (1,), ("many", "same"), 0, 1),
    "sum": ("sum", ((1, "sum"), (-1, "table")), None, 0),
    "table": ("table", ("table", "way"), ((1, 2),)),
    "way": ("way", ("way", "sum"), ((0, 1, 0),), (0,)),
    "behind": ("behind", ("behind", "many"), 0),
    "same": ("same", "same", (1,), ("table", ("table", "cell"), ((1, 1), (2, 2)))),
}


def sample_wishes():
    return [wish for group in (ORDINARY, GREATEST, LEAST, WORDY) for wish in group.values()]


def every_filling(rooms):
    names = list(rooms)
    for values in itertools.product(*[rooms[name] for name in names]):
        yield dict(zip(names, values))


def raised(error, call, *handed):
    """The error that the call raises, or None; of another class it goes on."""
    try:
        call(*handed)
    except error as refusal:
        return refusal
    return None


def kept_by_the_words(wish, filling):
    """Point 4 once more, told otherwise than the program tells it."""
    sort = wish[0]
    if sort == "unlike":
        return all(filling[x] != filling[y] for x, y in itertools.combinations(wish[1], 2))
    if sort == "many":
        return sum(filling[cell] in wish[1] for cell in wish[2]) in range(wish[3], wish[4] + 1)
    if sort == "sum":
        total = 0
        for factor, cell in wish[1]:
            total += factor * filling[cell]
        return not (wish[2] is not None and total < wish[2]) and not (wish[3] is not None and total > wish[3])
    if sort == "table":
        return any(all(filling[cell] == value for cell, value in zip(wish[1], row)) for row in wish[2])
    if sort == "way":
        states = {0}
        for cell in wish[1]:
            states = {step[2] for step in wish[2] if step[0] in states and step[1] == filling[cell]}
        return any(state in states for state in wish[3])
    if sort == "behind":
        found = [filling[cell] for cell in wish[1]]
        return all(found[place] - found[place - 1] >= wish[2] for place in range(1, len(found)))
    return (filling[wish[1]] in wish[2]) is kept_by_the_words(wish[3], filling)


SORTS = ("unlike", "many", "sum", "table", "way", "behind", "same")


def random_wish(chance, names, sorts=SORTS):
    cells = tuple(chance.sample(names, chance.randint(1, len(names) - 1)))
    values = tuple(chance.sample(range(-2, 4), chance.randint(0, 4)))
    sort = chance.choice(sorts)
    if sort == "unlike":
        return (sort, cells)
    if sort == "many":
        return (sort, values, cells, chance.randint(0, 3), chance.randint(0, 3))
    if sort == "sum":
        terms = tuple((chance.choice((-3, -1, 1, 2)), cell) for cell in cells)
        return (sort, terms, chance.choice((None, -3, 0, 2)), chance.choice((None, -1, 0, 3)))
    if sort == "table":
        every = list(itertools.product(range(-2, 4), repeat=len(cells)))
        return (sort, cells, tuple(chance.sample(every, chance.randint(0, 6))))
    if sort == "way":
        every = list(itertools.product(range(3), range(-2, 4)))
        steps = tuple(pair + (chance.randint(0, 2),) for pair in chance.sample(every, chance.randint(0, 18)))
        return (sort, cells, steps, tuple(chance.sample(range(3), chance.randint(0, 3))))
    if sort == "behind":
        return (sort, cells, chance.randint(-2, 2))
    inner = tuple(name for name in names if name != cells[0])
    return (sort, cells[0], values, random_wish(chance, inner, SORTS[:6]))


def random_rooms(chance, names, most):
    return {name: tuple(sorted(chance.sample(range(-2, 4), chance.randint(1, most)))) for name in names}


def told_by_all(wish, rooms):
    """Whether the wish may be kept and may be broken, by going through all fillings of its cells."""
    answers = {kept_by_the_words(wish, filling) for filling in every_filling({cell: rooms[cell] for cell in cells_of(wish)})}
    return True in answers, False in answers


def random_clause(chance, rooms, most, outside=()):
    """A clause of cells and values of these rooms, or of values that are perhaps in none."""
    names = sorted(rooms)
    literals = set()
    for turn in range(chance.randint(0, most)):
        name = chance.choice(names)
        literals.add((name, chance.choice(("is", "not")), chance.choice(rooms[name] + tuple(outside))))
    return tuple(sorted(literals))


def holds_by_the_words(clause, filling):
    """Point 8 once more."""
    return any((filling[cell] == value) is (word == "is") for cell, word, value in clause)


def follows_by_all(wish, clause, rooms):
    """Point 9 by going through all fillings of the rooms' cells."""
    return all(holds_by_the_words(clause, filling) for filling in every_filling(rooms) if kept_by_the_words(wish, filling))


def by_units_by_the_words(rooms, clauses):
    """Point 10 by going round clause by clause, over sets."""
    left = {name: set(room) for name, room in rooms.items()}
    changed = True
    while changed:
        changed = False
        for clause in clauses:
            able = []
            for cell, word, value in clause:
                by_it = left[cell] & {value} if word == "is" else left[cell] - {value}
                if by_it:
                    able.append((cell, by_it))
            if not able:
                return None
            if len(able) == 1 and left[able[0][0]] != able[0][1]:
                left[able[0][0]] = able[0][1]
                changed = True
    return {name: tuple(sorted(room)) for name, room in left.items()}


class Filled(Exception):
    """The hall has a filling that keeps all wishes, so there is no paper."""


def negated(chosen, rooms, told_by_is):
    """The clause that not all of these values are chosen, where it can be by `is` of the other one of two values."""
    literals = []
    for name, value in chosen.items():
        others = [other for other in rooms[name] if other != value]
        if told_by_is and len(others) == 1:
            literals.append((name, "is", others[0]))
        else:
            literals.append((name, "not", value))
    return tuple(sorted(literals))


def paper_by_cases(hall, told_by_is=False):
    """A line by a wish where it is broken; else, behind those of all values of a cell, a line by None."""
    rooms = dict(hall[0])
    lines = []

    def go(chosen):
        now = dict(rooms, **{name: (value,) for name, value in chosen.items()})
        broken = [number for number, wish in enumerate(hall[1]) if not told_by_all(wish, now)[0]]
        if not broken and len(chosen) == len(rooms):
            raise Filled
        if not broken:
            name = [name for name in rooms if name not in chosen][0]
            for value in rooms[name]:
                go(dict(chosen, **{name: value}))
        lines.append((broken[0] if broken else None, negated(chosen, rooms, told_by_is)))

    go({})
    return tuple(lines)


def is_right_by_the_words(hall, paper, number):
    """Point 11 of one line once more."""
    rooms = dict(hall[0])
    why, clause = paper[number]
    if not all(cell in rooms and value in rooms[cell] for cell, word, value in clause):
        return False
    if why is not None:
        return why in range(len(hall[1])) and follows_by_all(hall[1][why], clause, rooms)
    narrowed = {name: list(room) for name, room in rooms.items()}
    for cell, word, value in clause:
        narrowed[cell] = [one for one in narrowed[cell] if (one == value) is (word == "not")]
    return not all(narrowed.values()) or by_units_by_the_words(narrowed, [line[1] for line in paper[:number]]) is None


def refused_at(hall, paper):
    """The number with which the paper is to be refused, or None."""
    for number in range(len(paper)):
        if not is_right_by_the_words(hall, paper, number):
            return number
    return None if paper and paper[-1][1] == () else len(paper)


def pairs_hall(names, room):
    """Cells no two of which may have one value, a wish for each pair."""
    return tuple((name, room) for name in names), tuple(("unlike", pair) for pair in itertools.combinations(names, 2))


def ring_hall(names, room):
    """Cells each unlike its neighbour, the last one unlike the first."""
    return tuple((name, room) for name in names), tuple(("unlike", pair) for pair in zip(names, names[1:] + names[:1]))


def fillings_of(hall):
    """All fillings that keep all wishes, by going through all."""
    return [filling for filling in every_filling(dict(hall[0])) if all(kept_by_the_words(wish, filling) for wish in hall[1])]


def loose_wish(chance, names, room, sorts=SORTS):
    """A wish of some of the cells that takes little away by itself, so that much is left to choices."""
    cells = tuple(chance.sample(names, chance.randint(2, min(4, len(names)))))
    half = tuple(chance.sample(room, len(room) // 2))
    sort = chance.choice(sorts)
    if sort == "unlike":
        return (sort, cells[:3] if len(room) > 2 else cells[:2])
    if sort == "many":
        return (sort, half, cells, chance.randint(0, 1), len(cells) - chance.randint(0, 1))
    if sort == "sum":
        terms = tuple((chance.choice((-FAR, -2, 1, 3)), cell) for cell in cells)
        middle = sum(factor * chance.choice(room) for factor, cell in terms)
        return chance.choice(((sort, terms, middle, None), (sort, terms, None, middle)))
    if sort == "table":
        every = list(itertools.product(room, repeat=2))
        return (sort, cells[:2], tuple(chance.sample(every, min(60, len(every) * 3 // 4))))
    if sort == "way":
        steps = tuple((state, value, chance.randint(0, 2)) for state in range(3) for value in room)
        return (sort, cells, tuple(chance.sample(steps, len(steps) - 1)), (1, 0))
    if sort == "behind":
        return (sort, cells[:2], -chance.randint(0, room[-1] - room[0]))
    others = tuple(name for name in names if name != cells[0])
    return (sort, cells[0], half, loose_wish(chance, others, room, SORTS[:6]) if len(others) > 1 else ("table", others, ((room[0],),)))


def small_halls(seed, count):
    """Halls by chance of all seven sorts with all fillings that keep all wishes: now wild ones, now ones that leave much to choices."""
    chance = random.Random(seed)
    for turn in range(count):
        if turn % 2:
            names, room = NAMES[:chance.randint(3, 6)], (-1, 0, 2)
            wishes = tuple(loose_wish(chance, names, room) for time in range(chance.randint(1, 14)))
            hall = tuple((name, room) for name in names), wishes
        else:
            cells = tuple(random_rooms(chance, "abcde", 4).items())
            hall = cells, tuple(random_wish(chance, "abcde") for time in range(chance.randint(0, 5)))
        yield hall, fillings_of(hall)


# How many cells of how many values hang together at most: of any of these the fillings are at most 2,000.
SHAPES = ((10, 2), (6, 3), (5, 4), (4, 6), (3, 10), (3, 4), (2, 10), (1, 10))


def group_hall(chance, names, alone, fits):
    """A hall of these cells and those alone, which have one value, with or without a filling; and its fillings."""
    room = tuple(sorted(chance.sample(range(-20, 20), {size: values for size, values in SHAPES}[len(names)])))
    cells = tuple((name, room) for name in names) + alone
    fillings = list(every_filling(dict(cells)))
    wishes = ()
    wanted = chance.randint(0, 3)
    while len(wishes) < wanted if fits else fillings:
        wish = loose_wish(chance, names + tuple(name for name, room in alone), room)
        left = [filling for filling in fillings if kept_by_the_words(wish, filling)]
        if left if fits else len(left) * 4 <= len(fillings) * 3:
            wishes += (wish,)
            fillings = left
    return (cells, wishes), fillings


def idle_wishes(chance, cells):
    """Wishes of cells of all groups that are always kept, so that they tie nothing."""
    names = [name for name, room in cells]
    return (("many", TEN, tuple(chance.sample(names, 12)), 0, 12), ("behind", tuple(chance.sample(names, 12)), -100),
            ("same", names[0], dict(cells)[names[0]], ("many", (), tuple(names[1:13]), 0, 0)))


def wide_hall(chance, sick):
    """A hall of forty cells and forty wishes, some told twice, that falls asunder; and the fillings of each group, of which so many have none."""
    alone = ((FORTY[38], (3,)), (FORTY[39], (-5,)))
    groups = []
    names = tuple(FORTY[:38])
    while names:
        size = chance.choice([size for size, values in SHAPES if size <= len(names)])
        groups.append(group_hall(chance, names[:size], alone, len(groups) >= sick))
        names = names[size:]
    cells = [cell for hall, fillings in groups for cell in hall[0] if cell not in alone] + list(alone)
    wishes = [wish for hall, fillings in groups for wish in hall[1]]
    wishes += idle_wishes(chance, cells)
    wishes += chance.choices(wishes, k=40 - len(wishes))
    chance.shuffle(cells)
    chance.shuffle(wishes)
    return (tuple(cells), tuple(wishes)), [fillings for hall, fillings in groups]


class HallTestCase(unittest.TestCase):
    def assert_filling(self, hall, filling, wishes=None):
        """A filling of all cells by their rooms that keeps these wishes, or all."""
        self.assertIsInstance(filling, dict)
        self.assertEqual(sorted(filling), sorted(name for name, room in hall[0]))
        for name, room in hall[0]:
            self.assertIn(filling[name], room)
        for wish in hall[1] if wishes is None else wishes:
            self.assertTrue(kept_by_the_words(wish, filling), (wish, filling))

    def assert_paper(self, hall, paper):
        self.assertIsInstance(paper, tuple)
        self.assertIs(check_none(hall, paper), True)
        for why, clause in paper:
            self.assertEqual(clause, tuple(sorted(set(clause))))
