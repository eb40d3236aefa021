import copy
import itertools
import random
import unittest

from helper import FORTY, NAMES, TEN, fillings_of, kept_by_the_words, pairs_hall, paper_by_cases, raised, refused_at, ring_hall, small_halls
from helper import told_by_all
from seekhall.cases import case_of, hall_of
from seekhall.errors import HallError, NoPaper
from seekhall.forms import cells_of
from seekhall.numbers import check_count
from seekhall.turnings import is_turning, plain_form, turned_rooms, turned_wish

WORDS = ("none", "all", "parts", "apart", "turned")


def is_case_by_the_words(hall, case):
    """Point 23 once more."""
    whole = dict(hall[0])
    for name, room in case[0].items():
        if name not in whole or not room or list(room) != sorted(set(room) & set(whole[name])):
            return False
    if any(number not in range(len(hall[1])) for number in case[1]) or list(case[1]) != sorted(set(case[1])):
        return False
    return all(set(cells_of(hall[1][number])) <= set(case[0]) for number in case[1])


def is_idle_by_all(hall, number, rooms):
    return not told_by_all(hall[1][number], rooms)[1]


def number_by_the_words(hall, lines, told):
    """Point 25 of the last one of these lines once more, or None; told are the numbers of those ahead."""
    (rooms, numbers), how = lines[-1]
    if not is_case_by_the_words(hall, lines[-1][0]):
        return None
    leant = {"none": (), "all": (), "parts": how[-1], "apart": how[-1], "turned": how[1:2]}[how[0]]
    if any(line not in range(len(told)) for line in leant):
        return None
    cases = [lines[line][0] for line in leant]
    product = 1
    if how[0] == "none":
        return 0 if refused_at(hall_of(hall, (rooms, numbers)), how[1]) is None else None
    if how[0] == "all":
        for room in rooms.values():
            product *= len(room)
        return product if all(is_idle_by_all(hall, number, rooms) for number in numbers) else None
    if how[0] == "parts":
        others = [{name: room for name, room in case[0].items() if name != how[1]} for case in cases]
        if not cases or how[1] not in rooms or any(case[1] != numbers or set(case[0]) != set(rooms) for case in cases):
            return None
        if any(other != {name: room for name, room in rooms.items() if name != how[1]} for other in others):
            return None
        together = sorted(value for case in cases for value in case[0][how[1]])
        return sum(told[line] for line in leant) if together == list(rooms[how[1]]) else None
    if how[0] == "apart":
        for name in rooms:
            times = sum(name in case[0] for case in cases)
            if times == 0 or (times > 1 and len(rooms[name]) > 1):
                return None
        if any(rooms.get(name) != room for case in cases for name, room in case[0].items()):
            return None
        had = [number for case in cases for number in case[1]]
        if len(had) != len(set(had)) or not set(had) <= set(numbers):
            return None
        if not all(is_idle_by_all(hall, number, rooms) for number in set(numbers) - set(had)):
            return None
        for line in leant:
            product *= told[line]
        return product
    if not is_turning(how[2]) or turned_rooms(how[2], cases[0][0]) != rooms:
        return None
    turned = [turned_wish(how[2], hall[1][number]) for number in cases[0][1]]
    if None in turned or sorted(str(plain_form(wish)) for wish in turned) != sorted(str(plain_form(hall[1][number])) for number in numbers):
        return None
    return told[how[1]]


def told_by_the_words(hall, paper):
    """A tuple of the number, or None, and of where the paper is to be refused, or None."""
    told = []
    for at in range(len(paper)):
        number = number_by_the_words(hall, paper[:at + 1], told)
        if number is None:
            return None, at
        told.append(number)
    if not paper or paper[-1][0] != case_of(hall):
        return None, len(paper)
    return told[-1], None


class Maker:
    """Right papers of numbers, made by chance in all ways that the point lets by."""

    def __init__(self, chance, hall, turnings=()):
        self.chance = chance
        self.hall = hall
        self.turnings = turnings
        self.lines = []

    def put(self, case, how):
        self.lines.append((case, how))
        return len(self.lines) - 1

    def make(self, case, deep=0):
        rooms, numbers = case
        known = [number for number, line in enumerate(self.lines) if line[0] == case]
        if known and self.chance.random() < 0.7:
            return self.chance.choice(known)
        if deep < 3 and self.turnings and self.chance.random() < 0.6:
            return self.make_turned(case, deep)
        if all(is_idle_by_all(self.hall, number, rooms) for number in numbers) and self.chance.random() < 0.7:
            return self.put(case, ("all",))
        inner = hall_of(self.hall, case)
        if self.chance.random() < 0.5 and not fillings_of(inner):
            return self.put(case, ("none", paper_by_cases(inner)))
        several = [name for name, room in rooms.items() if len(room) > 1]
        if deep < 4 and self.chance.random() < 0.5:
            return self.make_apart(case, deep)
        if several:
            return self.make_parts(case, self.chance.choice(several), deep)
        return self.put(case, ("none", paper_by_cases(inner)) if not fillings_of(inner) else ("all",))

    def make_parts(self, case, cell, deep):
        values = list(case[0][cell])
        self.chance.shuffle(values)
        cut = self.chance.randint(1, len(values) - 1)
        chunks = [values[:cut]] + [[value] for value in values[cut:]]
        lines = [self.make((dict(case[0], **{cell: tuple(sorted(chunk))}), case[1]), deep) for chunk in chunks]
        return self.put(case, ("parts", cell, tuple(self.chance.sample(lines, len(lines)))))

    def make_apart(self, case, deep):
        """Cells that no wish of more than idle kind holds together are put into lines; those of one value into any of them."""
        rooms, numbers = case
        busy = [number for number in numbers if not is_idle_by_all(self.hall, number, rooms)]
        alone = [name for name, room in rooms.items() if len(room) == 1]
        parts = [({name}, []) for name in rooms if name not in alone]
        for number in busy:
            cells = set(cells_of(self.hall[1][number]))
            touched = [part for part in parts if part[0] & cells]
            parts = [part for part in parts if part not in touched]
            parts.append((set().union(cells, *[part[0] for part in touched]), [number] + [one for part in touched for one in part[1]]))
        parts.append((set(alone), []))
        left = [number for number in numbers if number not in busy]
        lines = []
        for cells, own in parts:
            cells = cells | {name for name in alone if self.chance.random() < 0.3}
            idle = [number for number in left if set(cells_of(self.hall[1][number])) <= cells and self.chance.random() < 0.5]
            left = [number for number in left if number not in idle]
            lines.append(self.make(({name: rooms[name] for name in rooms if name in cells}, tuple(sorted(own + idle))), deep + 1))
        return self.put(case, ("apart", tuple(self.chance.sample(lines, len(lines)))))

    def make_turned(self, case, deep):
        turning = self.chance.choice(self.turnings)
        back = tuple({other: one for one, other in leads.items()} for leads in turning)
        plain = [plain_form(wish) for wish in self.hall[1]]
        numbers = [plain.index(plain_form(turned_wish(back, self.hall[1][number]))) for number in case[1]]
        line = self.make((turned_rooms(back, case[0]), tuple(sorted(numbers))), deep + 1)
        return self.put(case, ("turned", line, turning))

    def paper(self):
        self.make(case_of(self.hall))
        if self.lines[-1][0] != case_of(self.hall):
            return None
        return tuple(self.lines)


def round_of(*things):
    return dict(zip(things, things[1:] + things[:1]))


def halls_with_turnings():
    yield pairs_hall("abcd", (1, 2, 3)), ((round_of("a", "b"), {}), (round_of("b", "d", "c"), round_of(1, 3)), ({}, round_of(1, 2, 3) | round_of(98, 99)))
    yield ring_hall(NAMES[:5], (0, 1, 2)), ((round_of(*"abcde"), {}), (dict(zip("abcde", "edcba")), round_of(0, 2)))
    cells = tuple((name, (1, 2)) for name in "abcd")
    yield (cells, tuple(("sum", ((1, one), (-1, other)), 0, None) for one, other in ("ab", "cd"))), (
        ({"a": "c", "c": "a", "b": "d", "d": "b"}, {}), ({"a": "c", "c": "a", "b": "d", "d": "b"}, {1: 1, 2: 2}))


def right_papers(seed, count):
    """Halls by chance with right papers; now and then a line that nothing leans on."""
    chance = random.Random(seed)
    turned = itertools.cycle(list(halls_with_turnings()))
    halls = small_halls(seed + 1, 10 * count)
    made = 0
    while made < count:
        hall, turnings = next(turned) if made % 3 == 0 else (next(halls)[0], ())
        maker = Maker(chance, hall, turnings)
        if made % 2:
            maker.make(({name: room for name, room in hall[0][:2]}, ()))
        paper = maker.paper()
        if paper and 1 < len(paper) <= 60 and all(len(how[1]) <= 20 for case, how in paper if how[0] == "none"):
            made += 1
            yield hall, paper


def changed_case(chance, hall, case):
    rooms, numbers = dict(case[0]), case[1]
    name, whole = chance.choice(hall[0])
    kind = chance.randrange(6)
    if kind == 0:
        rooms[name] = tuple(sorted(chance.sample(whole, chance.randint(1, len(whole)))))
    elif kind == 1:
        rooms.pop(name, None)
    elif kind == 2:
        rooms[name] = chance.choice(((), whole + (99,), whole[::-1], whole + whole[:1], whole[1:]))
    elif kind == 3:
        numbers = numbers[1:] if chance.random() < 0.5 else numbers[:-1]
    elif kind == 4:
        numbers = tuple(sorted(set(numbers) | {chance.randrange(len(hall[1]) + 1)}))
    else:
        numbers = numbers[::-1] + (-1,) * chance.randint(0, 1)
    return rooms, numbers


def changed_how(chance, hall, how, at):
    line = chance.randrange(-1, at + 2)
    if how[0] == "none":
        return chance.choice((("all",), ("none", how[1][1:]), ("none", ((0, ()),)), ("none", ())))
    if how[0] == "all":
        return chance.choice((("none", ((0, ()),)), ("apart", ()), ("apart", (line,)), ("turned", line, ({}, {}))))
    if how[0] == "turned":
        turning = chance.choice((({}, {}), ({"a": "b"}, {}), ({"a": "b", "b": "a"}, {}), ({}, {1: 2, 2: 1}), ({}, {1: 2}), ({"a": "a"}, {0: 0})))
        return chance.choice((("turned", line, how[2]), ("turned", how[1], turning)))
    lines = chance.choice((how[-1][1:], how[-1] + how[-1][:1], how[-1] + (line,), how[-1][1:] + (line,), how[-1][::-1], ()))
    name = chance.choice(hall[0])[0]
    if how[0] == "parts":
        return chance.choice((("parts", how[1], lines), ("parts", name, how[2]), ("apart", how[2])))
    return chance.choice((("apart", lines), ("apart", lines), ("parts", name, how[1])))


def changed_paper(chance, hall, paper):
    at = chance.randrange(len(paper))
    case, how = paper[at]
    kind = chance.randrange(5)
    if kind == 0:
        line = changed_case(chance, hall, case), how
    elif kind < 3:
        line = case, changed_how(chance, hall, how, at)
    elif kind == 3:
        line = chance.choice(paper)
    else:
        return paper[:at] + paper[at + 1:]
    return paper[:at] + (line,) + paper[at + 1:]


class NumbersTestCase(unittest.TestCase):
    def assert_number(self, hall, paper, number):
        told = check_count(hall, paper)
        self.assertEqual(told, number)
        self.assertIs(type(told), int)

    def assert_refused(self, hall, paper, at):
        refusal = raised(HallError, check_count, hall, paper)
        self.assertIsInstance(refusal, NoPaper, (hall, paper))
        self.assertEqual(refusal.at, at, (hall, paper))

    def assert_as_told(self, hall, paper):
        number, at = told_by_the_words(hall, paper)
        if at is None:
            self.assert_number(hall, paper, number)
        else:
            self.assert_refused(hall, paper, at)
        return at is None


class RightPapersTest(NumbersTestCase):
    def test_the_hall_without_cells(self):
        hall = ((), ())
        for how in (("all",), ("apart", ())):
            self.assert_number(hall, ((({}, ()), how),), 1)
        self.assert_number(hall, ((({}, ()), ("all",)), (({}, ()), ("apart", (0, 0))), (({}, ()), ("turned", 1, ({"a": "a"}, {3: 3})))), 1)
        self.assert_refused(hall, (), 0)
        self.assert_refused(hall, ((({}, ()), ("none", ((None, ()),))),), 0)
        self.assert_refused(hall, ((({}, ()), ("parts", "a", ())),), 0)

    def test_none_and_all(self):
        cells = (("a", (1, 2)), ("b", (1, 2, 5)))
        self.assert_number((cells, ()), ((case_of((cells, ())), ("all",)),), 6)
        hall = cells, (("unlike", ("a",)), ("sum", ((1, "a"), (1, "b")), 2, 7))
        self.assert_number(hall, ((case_of(hall), ("all",)),), 6)
        hall = cells, (("unlike", ("a",)), ("sum", ((1, "a"), (1, "b")), 8, None))
        self.assert_number(hall, ((case_of(hall), ("none", ((1, ()),))),), 0)
        self.assert_refused(hall, ((case_of(hall), ("none", ((0, ()),))),), 0)
        self.assert_refused(hall, ((case_of(hall), ("all",)),), 0)

    def test_parts(self):
        hall = ((("a", (1, 2, 3)), ("b", (2, 3))), (("behind", ("a", "b"), 1),))
        rooms = dict(hall[0])
        lines = [(dict(rooms, a=(1,)), "all"), (dict(rooms, a=(3,)), "none"), (dict(rooms, a=(2,), b=(2,)), "none"), (dict(rooms, a=(2,), b=(3,)), "all")]
        lines = tuple(((one, (0,)), ("all",) if word == "all" else ("none", ((0, ()),))) for one, word in lines)
        lines += (((dict(rooms, a=(2,)), (0,)), ("parts", "b", (2, 3))), ((dict(rooms, a=(1, 3)), (0,)), ("parts", "a", (1, 0))))
        for last in (("parts", "a", (0, 1, 4)), ("parts", "a", (4, 5)), ("parts", "a", (1, 4, 0))):
            self.assert_number(hall, lines + ((case_of(hall), last),), 3)
        whole = lines + ((case_of(hall), ("parts", "a", (4, 5))),)
        self.assert_number(hall, whole + ((case_of(hall), ("parts", "a", (6,))), (case_of(hall), ("parts", "b", (7,)))), 3)
        for lines_named in ((0, 1), (0, 4), (0, 1, 4, 4), (0, 1, 4, 5), (0, 1, 3), (0, 1, 4, 3), (), (5,), (0, 1, 6), (0, 1, -2), (0, 1, 7)):
            self.assert_refused(hall, lines + ((case_of(hall), ("parts", "a", lines_named)),), 6)
        for cell in ("b", "c", ""):
            self.assert_refused(hall, lines + ((case_of(hall), ("parts", cell, (0, 1, 4))),), 6)

    def test_apart(self):
        cells = (("a", (1, 2)), ("b", (1, 2)), ("c", (1, 2, 3)), ("d", (7,)))
        wishes = (("unlike", ("a", "b")), ("behind", ("c", "d"), 5), ("unlike", ("a", "d")), ("table", ("d",), ((7,),)))
        hall = cells, wishes
        rooms = dict(cells)

        def of(names, *numbers):
            return {name: rooms[name] for name in names}, numbers
        ab = tuple(((dict(of("ab", 0)[0], a=(value,), b=(other,)), (0,)), ("none", ((0, ()),)) if value == other else ("all",))
                   for value in (1, 2) for other in (1, 2))
        ab += (((dict(of("ab")[0], a=(1,)), (0,)), ("parts", "b", (0, 1))), ((dict(of("ab")[0], a=(2,)), (0,)), ("parts", "b", (2, 3))))
        ab += ((of("ab", 0), ("parts", "a", (4, 5))),)
        cd = (((dict(of("cd")[0], c=(1, 2)), (1,)), ("all",)), ((dict(of("cd")[0], c=(3,)), (1,)), ("none", ((0, ()),))), (of("cd", 1), ("parts", "c", (7, 8))))
        beside = ((of("d"), ("all",)), (of("d", 3), ("all",)), (of("c"), ("all",)), (of("ad", 2), ("all",)), (of("a"), ("all",)), (({}, ()), ("all",)))
        lines = ab + cd + beside
        for right in ((6, 9), (9, 6), (6, 9, 10), (6, 9, 11), (6, 9, 10, 11, 10), (6, 9, 15), (6, 10, 9, 15, 15)):
            self.assert_number(hall, lines + ((case_of(hall), ("apart", right)),), 4)
        for wrong in ((6,), (9,), (6, 12), (6, 6, 9), (6, 9, 9), (6, 9, 12), (6, 9, 11, 11), (6, 9, 13), (6, 9, 14), (4, 9), (), (6, 7), (6, 9, 16), (-10, 9), (6, 10)):
            self.assert_refused(hall, lines + ((case_of(hall), ("apart", wrong)),), 16)

    def test_a_wish_that_is_not_idle_left_out_of_all_lines(self):
        hall = ((("a", (1, 2)), ("b", (1, 2))), (("unlike", ("a", "b")), ("unlike", ("a",))))
        ahead = (({"a": (1, 2)}, ()), ("all",)), (({"b": (1, 2)}, ()), ("all",)), (({"a": (1, 2)}, (1,)), ("all",))
        for lines in ((0, 1), (1, 2)):
            self.assert_refused(hall, ahead + ((case_of(hall), ("apart", lines)),), 3)
            self.assert_number((hall[0], hall[1][1:] * 2), ahead + ((case_of(hall), ("apart", lines)),), 4)

    def test_turned(self):
        hall = pairs_hall("abc", (1, 2, 3))
        rooms, every = dict(hall[0]), (0, 1, 2)
        lines = tuple(((dict(rooms, a=(1,), b=(2,), c=(value,)), every), ("all",) if value == 3 else ("none", ((value, ()),))) for value in (1, 2, 3))
        lines += (((dict(rooms, a=(1,), b=(2,)), every), ("parts", "c", (0, 1, 2))),)
        lines += (((dict(rooms, a=(1,), b=(3,)), every), ("turned", 3, ({}, {2: 3, 3: 2}))),)
        lines += (((dict(rooms, a=(1,), b=(1,)), every), ("none", ((0, ()),))), ((dict(rooms, a=(1,)), every), ("parts", "b", (5, 3, 4))))
        lines += (((dict(rooms, a=(2,)), every), ("turned", 6, ({}, {1: 2, 2: 1}))), ((dict(rooms, a=(3,)), every), ("turned", 7, ({}, {2: 3, 3: 1, 1: 2}))))
        last = ((case_of(hall), ("parts", "a", (6, 7, 8))),)
        self.assert_number(hall, lines + last, 6)
        by_cells = ((dict(rooms, c=(1,)), every), ("turned", 6, ({"a": "b", "b": "c", "c": "a"}, {}))), ((dict(rooms, b=(1,)), every), ("turned", 6, ({"a": "b", "b": "a"}, {})))
        self.assert_refused(hall, lines + by_cells + last, 9)
        self.assert_number(hall, lines + by_cells[1:] + last, 6)
        for turning in (({}, {}), ({}, {1: 2}), ({}, {1: 3, 3: 1}), ({"a": "b", "b": "a"}, {1: 2, 2: 1}), ({"a": "z", "z": "a"}, {1: 2, 2: 1}), ({}, {True: 2, 2: True})):
            self.assert_refused(hall, lines[:7] + (((dict(rooms, a=(2,)), every), ("turned", 6, turning)),), 7)
        for turning in (({}, {1: 2, 2: 1, 9: 9}), ({"b": "c", "c": "b", "z": "z"}, {1: 2, 2: 1}), ({"y": "z", "z": "y"}, {1: 2, 2: 1, 10 ** 40: 5, 5: 10 ** 40})):
            self.assert_number(hall, lines[:7] + (((dict(rooms, a=(2,)), every), ("turned", 6, turning)),) + lines[8:] + last, 6)
        for line in (7, 8, -1, 100):
            self.assert_refused(hall, lines[:7] + (((dict(rooms, a=(2,)), every), ("turned", line, ({}, {1: 2, 2: 1}))),), 7)

    def test_turned_with_other_wishes(self):
        cells = (("a", (1, 2)), ("b", (1, 2)))
        sums = (("sum", ((1, "a"), (2, "b")), None, 9), ("sum", ((2, "a"), (1, "b")), None, 9), ("sum", ((1, "b"), (2, "a")), None, 9))
        swap = {"a": "b", "b": "a"}, {}
        hall = cells, sums
        ahead = tuple(((dict(cells), numbers), ("all",)) for numbers in ((0,), (1,), (0, 1), (1, 2), ()))
        for case, line, turning, right in (((1,), 0, swap, True), ((2,), 0, swap, True), ((0,), 1, swap, True), ((1,), 0, ({}, {}), False),
                                           ((2,), 1, ({}, {}), True), ((0,), 0, swap, False), ((0, 2), 2, swap, True), ((1, 2), 2, swap, False),
                                           ((0, 1), 3, swap, False), ((0,), 2, swap, False), ((1, 2), 0, swap, False), ((), 0, swap, False),
                                           ((0,), 4, swap, False), ((1,), 0, (swap[0], {1: 2, 2: 1}), False), ((1,), 0, (swap[0], {1: 1}), True)):
            paper = ahead + (((dict(cells), case), ("turned", line, turning)), (case_of(hall), ("all",)))
            if right:
                self.assert_number(hall, paper, 4)
            else:
                self.assert_refused(hall, paper, 5)

    def test_right_papers_by_chance(self):
        words = set()
        for hall, paper in right_papers(1201, 240):
            words.update(how[0] for case, how in paper)
            self.assert_number(hall, paper, len(fillings_of(hall)))
        self.assertEqual(words, set(WORDS))

    def test_lines_leant_on_again_and_lines_that_nothing_leans_on(self):
        hall = tuple((name, TEN) for name in FORTY), ()
        lines = ((({FORTY[0]: TEN}, ()), ("all",)),)
        lines += tuple((({name: TEN}, ()), ("turned", 0, ({FORTY[0]: name, name: FORTY[0]}, {}))) for name in FORTY[1:])
        self.assert_number(hall, lines + ((case_of(hall), ("apart", tuple(range(40)))),), 10 ** 40)
        self.assert_number(hall, lines + ((case_of(hall), ("all",)),), 10 ** 40)
        self.assert_refused(hall, lines + ((case_of(hall), ("apart", tuple(range(39)))),), 40)
        self.assert_refused(hall, lines + ((case_of(hall), ("apart", tuple(range(40)) + (7,))),), 40)

    def test_four_hundred_lines(self):
        hall = tuple((name, TEN) for name in FORTY[:12]), (("unlike", tuple(FORTY[:12])),)
        single = [({name: (value,)}, ()) for name, value in itertools.product(FORTY, TEN) if name in FORTY[:12]]
        paper = tuple((case, ("all",)) for case in single * 3)[:399] + ((case_of(hall), ("none", ((0, ()),))),)
        self.assertGreater(len(paper), 360)
        self.assert_number(hall, paper, 0)
        self.assert_refused(hall, paper[:-1] + ((case_of(hall), ("all",)),), len(paper) - 1)


class RefusalsTest(NumbersTestCase):
    def test_the_last_case_is_not_the_hall_s(self):
        hall = ((("a", (1, 2)), ("b", (1, 2))), (("unlike", ("a",)),))
        right = case_of(hall), ("all",)
        self.assert_number(hall, (right,), 4)
        self.assert_refused(hall, (), 0)
        for case in (({"a": (1, 2), "b": (1, 2)}, ()), ({"a": (1, 2)}, (0,)), ({"a": (1, 2), "b": (1,)}, (0,)), ({}, ())):
            self.assert_refused(hall, ((case, ("all",)),), 1)
            self.assert_refused(hall, (right, (case, ("all",))), 2)
            self.assert_number(hall, ((case, ("all",)), right), 4)

    def test_cases_that_are_none(self):
        hall = ((("a", (1, 2)), ("b", (1, 2))), (("unlike", ("a",)),))
        for case in (({"c": (1,)}, ()), ({"a": ()}, ()), ({"a": (2, 1)}, ()), ({"a": (3,)}, ()), ({"b": (1,)}, (0,)), ({"a": (1,)}, (1,)), ({"a": (1,)}, (0, 0))):
            for how in (("all",), ("none", ((0, ()),)), ("parts", "a", ()), ("apart", ()), ("turned", 0, ({}, {}))):
                self.assert_refused(hall, ((case_of(hall), ("all",)), (case, how), (case_of(hall), ("all",))), 1)

    def test_none_in_the_stead_of_all_and_the_other_way_about(self):
        for hall, paper in right_papers(1202, 60):
            for at, (case, how) in enumerate(paper):
                if how[0] in ("none", "all"):
                    other = ("all",) if how[0] == "none" else ("none", ((0, ()),))
                    self.assert_refused(hall, paper[:at] + ((case, other),) + paper[at + 1:], at)

    def test_a_line_left_out_or_told_twice(self):
        for hall, paper in right_papers(1203, 60):
            for at, (case, how) in enumerate(paper):
                if how[0] in ("parts", "apart"):
                    for lines in (how[-1][1:], how[-1] + how[-1][-1:], how[-1][:-1] + (at,), how[-1][:-1] + (-1,)):
                        self.assert_as_told(hall, paper[:at] + ((case, how[:-1] + (lines,)),) + paper[at + 1:])

    def test_words_that_are_none(self):
        hall = ((("a", (1, 2)),), ())
        for how in (("some",), ("",), ("ALL",), ("none_", ())):
            self.assert_refused(hall, ((case_of(hall), how),), 0)

    def test_papers_changed_by_chance(self):
        chance = random.Random(1204)
        told = {True: 0, False: 0}
        for hall, paper in right_papers(1205, 90):
            for turn in range(25):
                told[self.assert_as_told(hall, changed_paper(chance, hall, paper))] += 1
        self.assertGreater(min(told.values()), 150)

    def test_what_is_let_by_is_told_with_the_right_number(self):
        chance = random.Random(1206)
        let_by = 0
        for hall, paper in right_papers(1207, 120):
            number = len(fillings_of(hall))
            for turn in range(40):
                changed = changed_paper(chance, hall, paper)
                if raised(NoPaper, check_count, hall, changed) is None:
                    let_by += 1
                    self.assert_number(hall, changed, number)
        self.assertGreater(let_by, 400)

    def test_what_is_handed_in_stays_and_what_was_asked_changes_nothing(self):
        for hall, paper in right_papers(1208, 12):
            before = copy.deepcopy((hall, paper))
            number = check_count(hall, paper)
            raised(NoPaper, check_count, hall, paper[:-1])
            self.assert_number(hall, paper, number)
            self.assertEqual((hall, paper), before)
            self.assertEqual(number, sum(all(kept_by_the_words(wish, filling) for wish in hall[1]) for filling in fillings_of((hall[0], ()))))
