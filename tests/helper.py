"""What several tests use: wishes of all sorts, and fillings gone through one by one."""

import itertools

LETTERS = "abcdefghijklmnopqrstuvwxyz"
NAMES = tuple(LETTERS)
FAR = 10 ** 6
GREATEST_STEPS = tuple((state, value, 20 - state) for state in range(20, 17, -1) for value in range(20))

ORDINARY = {
    "unlike": ("unlike", ("a", "b", "c")),
    "many": ("many", (1, 3), ("b", "a"), 1, 2),
    "sum": ("sum", ((2, "a"), (-3, "b")), -4, 5),
    "table": ("table", ("b", "a"), ((1, 2), (2, 1), (-3, 3))),
    "way": ("way", ("a", "b"), ((0, 1, 1), (0, 2, 2), (1, 2, 2)), (2, 0)),
    "behind": ("behind", ("c", "a", "b"), -1),
    "same": ("same", "c", (2, 1), ("unlike", ("b", "a"))),
}

GREATEST = {
    "unlike": ("unlike", NAMES[:12]),
    "many": ("many", tuple(range(FAR, FAR - 60, -1)), NAMES[:12], 10 ** 9, 10 ** 9),
    "sum": ("sum", tuple((FAR, name) for name in NAMES[:6]), -(10 ** 13), 10 ** 13),
    "table": ("table", NAMES[:12], tuple((-FAR + row,) * 12 for row in range(60))),
    "way": ("way", NAMES[:12], GREATEST_STEPS, tuple(range(21))),
    "behind": ("behind", NAMES[:12], 10 ** 9),
    "same": ("same", "z", tuple(range(-FAR, -FAR + 60)), ("unlike", NAMES[:12])),
}

LEAST = {
    "unlike": ("unlike", ("a",)),
    "many": ("many", (), ("a",), 0, 0),
    "sum": ("sum", ((-FAR, "a"),), None, None),
    "table": ("table", ("a",), ()),
    "way": ("way", ("a",), (), ()),
    "behind": ("behind", ("a",), -(10 ** 9)),
    "same": ("same", "z", (), ("behind", ("a",), 0)),
}

# Cells may be called like the words with which rows begin.
ROW_WORDS = ("cell", "unlike", "many", "sum", "table", "way", "behind", "same")
WORDY = {
    "unlike": ("unlike", ("unlike", "cell")),
    "many": ("many", (1,), ("many", "same"), 0, 1),
    "sum": ("sum", ((1, "sum"), (-1, "table")), None, 0),
    "table": ("table", ("table", "way"), ((1, 2),)),
    "way": ("way", ("way", "sum"), ((0, 1, 0),), (0,)),
    "behind": ("behind", ("behind", "many"), 0),
    "same": ("same", "same", (1,), ("table", ("table", "cell"), ((1, 1), (2, 2)))),
}


def sample_wishes():
    return [wish for group in (ORDINARY, GREATEST, LEAST, WORDY) for wish in group.values()]


def every_filling(rooms):
    names = list(rooms)
    for values in itertools.product(*[rooms[name] for name in names]):
        yield dict(zip(names, values))


def raised(error, call, *handed):
    """The error that the call raises, or None; of another class it goes on."""
    try:
        call(*handed)
    except error as refusal:
        return refusal
    return None
