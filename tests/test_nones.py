import copy
import random
import unittest

from helper import FAR, FORTY, TEN, Filled, every_filling, holds_by_the_words, kept_by_the_words, pairs_hall, paper_by_cases, raised
from helper import random_rooms, random_wish, refused_at
from seekhall.errors import HallError, NoPaper
from seekhall.nones import check_none, named_in


def chain_hall():
    """Forty cells that are all alike, and the first one more than the last."""
    alike = tuple(("table", pair, tuple((value, value) for value in TEN[:9])) for pair in zip(FORTY, FORTY[1:]))
    return tuple((name, TEN[:9]) for name in FORTY), alike + (("behind", (FORTY[39], FORTY[0]), 1),)


def chain_paper():
    lines = []
    for number in range(38, -1, -1):
        for value in TEN[:9]:
            lines.append((number, tuple(sorted([(FORTY[number], "not", value), (FORTY[number + 1], "is", value)]))))
    lines += [(39, ((FORTY[0], "not", value), (FORTY[39], "not", value))) for value in TEN[:9]]
    lines += [(None, ((FORTY[0], "not", value),)) for value in TEN[:9]]
    return tuple(lines) + ((None, ()),)


def random_halls(seed, count, names="abcd"):
    """Halls by chance that have no filling, with papers of two lines or more."""
    chance = random.Random(seed)
    found = []
    while len(found) < count:
        cells = tuple(random_rooms(chance, names, 3).items())
        hall = cells, tuple(random_wish(chance, names) for time in range(chance.randint(1, 5)))
        try:
            paper = paper_by_cases(hall, len(found) % 2 == 1)
        except Filled:
            continue
        if 1 < len(paper) <= 400:
            found.append((hall, paper))
    return found


def changed_line(chance, hall, line):
    """The line told otherwise in one thing, perhaps wrong."""
    why, clause = line
    name, room = chance.choice(hall[0])
    literal = (name, chance.choice(("is", "not")), chance.choice(room))
    left = list(clause)
    if left:
        left.pop(chance.randrange(len(left)))
    numbers = list(range(len(hall[1])))
    return chance.choice([
        (None, clause),
        (chance.choice(numbers), clause),
        (chance.choice((-1, len(numbers), 40, -len(numbers), 10 ** 9)), clause),
        (why, tuple(left)),
        (why, tuple(sorted(set(clause) | {literal}))),
        (why, tuple(sorted(set(left) | {literal}))),
        (why, tuple(sorted(set(left) | {(name, literal[1], chance.choice((99, -FAR, room[-1] + 1)))}))),
        (why, tuple(sorted(set(clause) | {("zz", literal[1], room[0])}))),
    ])


def changed_paper(chance, hall, paper):
    place = chance.randrange(len(paper))
    other = chance.randrange(len(paper))
    return chance.choice([
        paper[:place] + paper[place + 1:],
        paper[:place] + (changed_line(chance, hall, paper[place]),) + paper[place + 1:],
        paper[:place] + (changed_line(chance, hall, paper[place]),) + paper[place:],
        paper[:place] + (paper[other],) + paper[place:],
        paper[place:] + paper[:place],
        paper[:place],
        paper + (paper[place],),
        paper[::-1],
    ])


class NonesTestCase(unittest.TestCase):
    def assert_refused(self, hall, paper, at):
        refusal = raised(HallError, check_none, hall, paper)
        self.assertIsInstance(refusal, NoPaper)
        self.assertEqual(refusal.at, at)

    def assert_as_told(self, hall, paper):
        at = refused_at(hall, paper)
        if at is None:
            self.assertIs(check_none(hall, paper), True)
        else:
            self.assert_refused(hall, paper, at)
        return at


class RightPapersTest(NonesTestCase):
    def test_a_wish_that_is_never_kept(self):
        hall = ((("a", (1, 2)),), (("unlike", ("a",)), ("table", ("a",), ())))
        self.assertIs(check_none(hall, ((1, ()),)), True)
        self.assertIs(check_none(hall, ((1, (("a", "is", 1),)), (1, (("a", "is", 2),)), (None, ()))), True)

    def test_two_values_told_in_all_ways(self):
        hall = pairs_hall("abc", (1, 2))
        self.assertIs(check_none(hall, paper_by_cases(hall)), True)
        self.assertIs(check_none(hall, paper_by_cases(hall, True)), True)
        self.assertTrue(all(word == "is" for why, clause in paper_by_cases(hall, True) for cell, word, value in clause))
        units = ((0, (("a", "is", 1), ("b", "is", 1))), (1, (("a", "not", 2), ("c", "is", 1))), (2, (("b", "not", 1), ("c", "not", 1))),
                 (0, (("a", "is", 2), ("b", "is", 2))), (1, (("a", "not", 1), ("c", "is", 2))), (2, (("b", "is", 1), ("c", "is", 1))),
                 (None, (("a", "is", 1),)), (None, ()))
        self.assertIs(check_none(hall, units), True)

    def test_lines_told_twice(self):
        hall = pairs_hall("abc", (1, 2))
        paper = paper_by_cases(hall)
        self.assertIs(check_none(hall, tuple(line for line in paper for time in range(2))), True)
        self.assertIs(check_none(hall, paper + paper), True)

    def test_papers_of_many_lines(self):
        hall = pairs_hall("abcde", (1, 2, 3, 4))
        paper = paper_by_cases(hall)
        self.assertEqual(len(paper), 261)
        self.assertIs(check_none(hall, paper), True)
        self.assertEqual(named_in(paper), list(range(10)))
        filled_up = paper[:-1] + paper[:139] + paper[-1:]
        self.assertEqual(len(filled_up), 400)
        self.assertIs(check_none(hall, filled_up), True)

    def test_a_long_row_of_forty_cells_from_the_last_to_the_first(self):
        hall, paper = chain_hall(), chain_paper()
        self.assertEqual((len(hall[0]), len(hall[1]), len(paper)), (40, 40, 370))
        self.assertIs(check_none(hall, paper), True)
        self.assertEqual(named_in(paper), list(range(40)))
        for place in (0, 200, 350, 351, 359):
            value = paper[place][1][0][2]
            self.assert_refused(hall, paper[:place] + paper[place + 1:], 359 + value)
        # Where one value is left it is the only one, and the last line goes by it.
        self.assertIs(check_none(hall, paper[:360] + paper[361:]), True)
        self.assert_refused(hall, paper[:360] + paper[362:], 367)
        self.assert_refused(hall, paper[:-1], 369)

    def test_clauses_of_forty_literals(self):
        cells = tuple((name, (0, 1)) for name in FORTY)
        wishes = tuple(("table", (name,), ((0,),)) for name in FORTY[:38])
        hall = cells, wishes + (("table", (FORTY[38], FORTY[39]), ((0, 0),)), ("many", (0,), (FORTY[7],), 0, 0))
        whole = tuple((name, "is", 1) for name in FORTY)
        lines = [(39, whole)] + [(number, ((name, "not", 1),)) for number, name in enumerate(FORTY[:39])]
        paper = tuple(lines) + ((38, ((FORTY[39], "not", 1),)), (None, ()))
        self.assertEqual(len(whole), 40)
        self.assertIs(check_none(hall, paper), True)
        for place in range(41):
            self.assert_refused(hall, paper[:place] + paper[place + 1:], 40)

    def test_each_sort_of_wish(self):
        hall = ((("a", (1, 2)), ("b", (1, 2)), ("c", (1, 2))), (
            ("unlike", ("a", "b")), ("many", (1,), ("a", "c"), 2, 2), ("sum", ((1, "a"), (1, "b")), 2, 2), ("table", ("a", "b"), ((2, 2),)),
            ("way", ("b", "a"), ((0, 2, 1), (1, 2, 1)), (1,)), ("behind", ("a", "b"), 1), ("same", "c", (1,), ("unlike", ("a", "b")))))
        self.assertIs(check_none(hall, ((2, (("a", "is", 1),)), (3, (("a", "is", 2),)), (None, ()))), True)
        self.assertIs(check_none(hall, ((1, (("c", "is", 1),)), (6, (("a", "not", 1), ("b", "not", 1), ("c", "not", 1))),
                                        (1, (("a", "is", 1),)), (4, (("a", "is", 2),)), (None, ()))), True)
        self.assertIs(check_none(hall, ((5, (("b", "not", 1),)), (2, (("b", "is", 1),)), (None, ()))), True)
        self.assertIs(check_none(hall, ((0, (("a", "is", 1), ("b", "is", 1))), (2, (("b", "is", 1),)), (2, (("a", "is", 1),)),
                                        (0, (("a", "not", 1), ("b", "not", 1))), (None, ()))), True)

    def test_halls_by_chance(self):
        sorts = set()
        for hall, paper in random_halls(71, 150):
            sorts.update(wish[0] for wish in hall[1])
            self.assertIs(check_none(hall, paper), True)
        self.assertEqual(len(sorts), 7)


class RefusalsTest(NonesTestCase):
    def test_the_hall_without_cells(self):
        for paper in ((), ((None, ()),), ((0, ()),), ((-1, ()),), ((None, (("a", "is", 1),)),)):
            self.assert_refused(((), ()), paper, 0)

    def test_no_lines(self):
        self.assert_refused(pairs_hall("abc", (1, 2)), (), 0)

    def test_the_last_clause_is_another_one(self):
        hall = pairs_hall("abc", (1, 2))
        paper = paper_by_cases(hall)
        self.assert_refused(hall, paper[:-1], len(paper) - 1)
        self.assert_refused(hall, paper + paper[:1], len(paper) + 1)

    def test_a_hall_that_has_a_filling(self):
        hall = pairs_hall("ab", (1, 2))
        paper = ((0, (("a", "is", 1), ("b", "is", 1))), (0, (("a", "is", 2), ("b", "is", 2))), (None, ()))
        self.assert_refused(hall, paper, 2)
        self.assert_refused(hall, ((None, ()),), 0)
        self.assert_refused(hall, ((0, ()),), 0)

    def test_numbers_that_are_no_wishes(self):
        hall = ((("a", (1,)),), (("table", ("a",), ()), ("table", ("a",), ())))
        for number in (2, 3, 40, 10 ** 9, -1, -2, -3):
            self.assert_refused(hall, ((number, ()),), 0)
            self.assert_refused(hall, ((0, (("a", "is", 1),)), (number, (("a", "not", 1),)), (1, ())), 1)
        self.assertIs(check_none(hall, ((0, (("a", "is", 1),)), (1, (("a", "not", 1),)), (1, ()))), True)

    def test_cells_and_values_that_the_hall_has_not(self):
        hall = ((("a", (1, 2)), ("b", (3,))), (("table", ("a",), ()),))
        for literal in (("a", "is", 3), ("a", "not", 0), ("b", "is", 1), ("b", "not", 2), ("c", "is", 1), ("c", "not", 3), ("aa", "is", 1)):
            for why in (0, None):
                self.assert_refused(hall, ((why, (literal,)), (0, ())), 0)
                self.assert_refused(hall, ((0, ()), (why, (literal,)), (0, ())), 1)
                self.assert_refused(hall, ((0, ()), (why, tuple(sorted([literal, ("a", "is", 1)]))), (0, ())), 1)
        self.assertIs(check_none(hall, ((0, ()), (None, (("a", "is", 1), ("b", "not", 3))), (0, ()))), True)

    def test_values_of_first_rooms_that_were_taken_away(self):
        hall = ((("a", (1, 2, 3)),), (("table", ("a",), ((1,),)), ("table", ("a",), ((2,),))))
        ahead = ((0, (("a", "is", 1),)),)
        self.assertIs(check_none(hall, ahead + ((None, (("a", "not", 3),)), (1, (("a", "not", 1),)), (None, ()))), True)
        self.assert_refused(hall, ahead + ((None, (("a", "is", 3),)), (1, (("a", "not", 1),)), (None, ())), 1)

    def test_a_line_by_another_wish_or_by_none(self):
        hall = pairs_hall("abc", (1, 2))
        paper = paper_by_cases(hall)
        for place, (why, clause) in enumerate(paper):
            for other in (None, 0, 1, 2):
                changed = paper[:place] + ((other, clause),) + paper[place + 1:]
                self.assert_as_told(hall, changed)
        self.assert_refused(hall, ((1, (("a", "not", 1), ("b", "not", 1))),) + paper, 0)
        self.assert_refused(hall, ((None, (("a", "not", 1), ("b", "not", 1))),) + paper, 0)

    def test_what_follows_from_several_wishes_but_from_none_alone(self):
        hall = ((("a", (1, 2)),), (("table", ("a",), ((1,),)), ("table", ("a",), ((2,),))))
        self.assert_refused(hall, ((0, ()),), 0)
        self.assert_refused(hall, ((0, (("a", "is", 1),)), (1, ())), 1)
        self.assertIs(check_none(hall, ((0, (("a", "is", 1),)), (1, (("a", "is", 2),)), (None, ()))), True)

    def test_a_clause_that_stands_behind_does_not_count(self):
        hall = pairs_hall("abc", (1, 2))
        paper = paper_by_cases(hall)
        self.assert_refused(hall, (paper[-1],) + paper, 0)
        self.assert_as_told(hall, paper[1:] + paper[:1] + paper[-1:])

    def test_only_units_count_not_all_that_is_so(self):
        """The clauses leave no filling, but no unit among them leads on."""
        hall = ((("a", (1, 2)), ("b", (1, 2))), (("table", ("a", "b"), ((1, 1), (2, 2))), ("table", ("a", "b"), ((1, 2), (2, 1)))))
        four = ((0, (("a", "is", 1), ("b", "is", 2))), (0, (("a", "is", 2), ("b", "is", 1))),
                (1, (("a", "is", 1), ("b", "is", 1))), (1, (("a", "is", 2), ("b", "is", 2))))
        self.assert_refused(hall, four + ((None, ()),), 4)
        self.assertIs(check_none(hall, four + ((None, (("a", "is", 1),)), (None, ()))), True)

    def test_each_line_left_out(self):
        for hall, paper in random_halls(72, 60):
            for place in range(len(paper)):
                self.assert_as_told(hall, paper[:place] + paper[place + 1:])

    def test_each_literal_left_out_or_put_otherwise(self):
        told = set()
        for hall, paper in random_halls(73, 25, "abc"):
            for place, (why, clause) in enumerate(paper):
                for number, (cell, word, value) in enumerate(clause):
                    left = clause[:number] + clause[number + 1:]
                    other = tuple(sorted(set(left) | {(cell, "not" if word == "is" else "is", value)}))
                    for spoilt in (left, other):
                        told.add(self.assert_as_told(hall, paper[:place] + ((why, spoilt),) + paper[place + 1:]) is None)
        self.assertEqual(told, {True, False})

    def test_papers_changed_by_chance(self):
        chance = random.Random(74)
        told = {True: 0, False: 0}
        for hall, paper in random_halls(75, 80):
            for turn in range(25):
                changed = changed_paper(chance, hall, paper)
                told[self.assert_as_told(hall, changed) is None] += 1
        self.assertGreater(min(told.values()), 200)

    def test_a_great_paper_changed_by_chance(self):
        chance = random.Random(76)
        hall = pairs_hall("abcde", (1, 2, 3))
        paper = paper_by_cases(hall)
        for turn in range(60):
            self.assert_as_told(hall, changed_paper(chance, hall, paper))


class WhatIsLetByTest(NonesTestCase):
    def assert_so(self, hall, paper):
        """Every line holds in each filling that keeps the wishes named; and no filling keeps them."""
        for filling in every_filling(dict(hall[0])):
            kept = [kept_by_the_words(wish, filling) for wish in hall[1]]
            self.assertFalse(all(kept[number] for number in named_in(paper)))
            named = []
            for why, clause in paper:
                named += [] if why is None else [why]
                if all(kept[number] for number in named):
                    self.assertTrue(holds_by_the_words(clause, filling))

    def test_papers_that_chance_made(self):
        chance = random.Random(77)
        let_by = 0
        for hall, paper in random_halls(78, 60, "abc"):
            for turn in range(20):
                changed = changed_paper(chance, hall, changed_paper(chance, hall, paper) or paper)
                if raised(HallError, check_none, hall, changed) is None:
                    let_by += 1
                    self.assert_so(hall, changed)
        self.assertGreater(let_by, 100)

    def test_no_paper_for_a_hall_that_has_a_filling(self):
        chance = random.Random(79)
        asked = 0
        for hall, paper in random_halls(80, 60, "abc"):
            for number in range(len(hall[1])):
                fewer = hall[0], hall[1][:number] + hall[1][number + 1:]
                if any(all(kept_by_the_words(wish, filling) for wish in fewer[1]) for filling in every_filling(dict(hall[0]))):
                    asked += 1
                    lines = [(why if why is None or why < number else max(0, why - 1), clause) for why, clause in paper]
                    self.assertIsNotNone(raised(NoPaper, check_none, fewer, tuple(lines)))
                    if fewer[1]:
                        self.assertIsNotNone(raised(NoPaper, check_none, fewer, changed_paper(chance, fewer, tuple(lines))))
        self.assertGreater(asked, 30)


class StaysTest(NonesTestCase):
    def test_what_is_handed_in_stays_and_what_was_asked_changes_nothing(self):
        hall = pairs_hall("abc", (1, 2))
        paper = paper_by_cases(hall)
        before = copy.deepcopy((hall, paper))
        for turn in range(3):
            self.assertIs(check_none(hall, paper), True)
            self.assert_refused(hall, paper[1:], refused_at(hall, paper[1:]))
            self.assertEqual(named_in(paper), [0, 1, 2])
        self.assertEqual((hall, paper), before)


class NamedTest(unittest.TestCase):
    def test_sorted_and_each_once(self):
        paper = ((5, ()), (None, ()), (0, ()), (5, (("a", "is", 1),)), (12, ()), (3, ()), (0, ()), (None, ()))
        self.assertEqual(named_in(paper), [0, 3, 5, 12])

    def test_none_at_all(self):
        self.assertEqual(named_in(()), [])
        self.assertEqual(named_in(((None, ()), (None, ()))), [])

    def test_a_new_list_each_time(self):
        paper = ((2, ()), (1, ()))
        told = named_in(paper)
        self.assertIsInstance(told, list)
        told.append(9)
        self.assertEqual(named_in(paper), [1, 2])
