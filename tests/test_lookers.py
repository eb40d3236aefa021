import copy
import itertools
import random
import unittest

from helper import FAR, GREATEST, NAMES, ORDINARY, SORTS, TEN, every_filling, follows_by_all, kept_by_the_words, random_rooms
from helper import random_wish, told_by_all
from seekhall.clauses import follows_from
from seekhall.forms import cells_of
from seekhall.lookers import dead_clause, looked_at
from seekhall.sorts import may_be_kept

TWELVE = NAMES[:12]
STEPS = tuple((state, value, (state + value) % 21) for state in range(21) for value in (0, 1, 2))[:60]


def taken_by_all(wish, now):
    """The values that no filling has that keeps the wish, by going through all fillings of its cells."""
    cells = cells_of(wish)
    had = set()
    for filling in every_filling({cell: now[cell] for cell in cells}):
        if kept_by_the_words(wish, filling):
            had.update(filling.items())
    return [(cell, value) for cell in cells for value in now[cell] if (cell, value) not in had]


def taken_one_by_one(wish, now):
    return [(cell, value) for cell in cells_of(wish) for value in now[cell] if not may_be_kept(wish, dict(now, **{cell: (value,)}))]


def of_the_wish(rooms, wish):
    return {cell: rooms[cell] for cell in cells_of(wish)}


def within(chance, first, most=10):
    return {name: tuple(sorted(chance.sample(room, chance.randint(1, min(most, len(room)))))) for name, room in first.items()}


class LookersTestCase(unittest.TestCase):
    def assert_clause(self, wish, clause, own, first, now, follows):
        """The clause is sorted, of such literals as are told, follows from the wish, and with any of the others left out no more."""
        self.assertIsInstance(clause, tuple)
        self.assertEqual(clause, tuple(sorted(set(clause))))
        others = [literal for literal in clause if literal != own]
        self.assertEqual(len(clause), len(others) + (0 if own is None else 1))
        for cell, word, value in others:
            self.assertEqual(word, "is")
            self.assertIn(cell, cells_of(wish))
            self.assertIn(value, first[cell])
            self.assertNotIn(value, now[cell])
        self.assertTrue(follows(wish, clause, first), (wish, clause, first))
        for literal in others:
            fewer = tuple(other for other in clause if other != literal)
            self.assertFalse(follows(wish, fewer, first), (wish, clause, literal, first))

    def assert_looked(self, wish, first, now, expected, follows=follows_from):
        told = looked_at(wish, first, now)
        self.assertIsInstance(told, list)
        self.assertEqual([(cell, value) for cell, value, clause in told], expected, (wish, first, now))
        for cell, value, clause in told:
            self.assert_clause(wish, clause, (cell, "not", value), first, now, follows)
        return told

    def assert_dead(self, wish, first, now, may_keep, follows=follows_from):
        clause = dead_clause(wish, first, now)
        if may_keep:
            self.assertIsNone(clause)
        else:
            self.assertIsNotNone(clause, (wish, first, now))
            self.assert_clause(wish, clause, None, first, now, follows)
        return clause

    def assert_long(self, wish, first, now):
        self.assert_dead(wish, first, now, may_be_kept(wish, now))
        return self.assert_looked(wish, first, now, taken_one_by_one(wish, now))


class FewTest(LookersTestCase):
    def test_unlike(self):
        wish = ("unlike", ("b", "a"))
        first = {"a": (1, 2, 3), "b": (1, 2, 3)}
        self.assertEqual(looked_at(wish, first, first), [])
        self.assertEqual(looked_at(wish, first, {"a": (1,), "b": (1, 2)}),
                         [("b", 1, (("a", "is", 2), ("a", "is", 3), ("b", "not", 1)))])
        self.assertIsNone(dead_clause(wish, first, {"a": (1,), "b": (1, 2)}))
        dead = (("a", "is", 2), ("a", "is", 3), ("b", "is", 2), ("b", "is", 3))
        self.assertEqual(dead_clause(wish, first, {"a": (1,), "b": (1,)}), dead)
        self.assertEqual(looked_at(wish, first, {"a": (1,), "b": (1,)}),
                         [("b", 1, dead[:2] + (("b", "not", 1),)), ("a", 1, (("a", "not", 1),) + dead[2:])])

    def test_values_that_first_rooms_have_not_stand_in_no_clause(self):
        wish = ("unlike", ("a", "b"))
        self.assertEqual(looked_at(wish, {"a": (1,), "b": (1, 2)}, {"a": (1,), "b": (1, 2)}), [("b", 1, (("b", "not", 1),))])
        self.assertEqual(dead_clause(wish, {"a": (1,), "b": (1,)}, {"a": (1,), "b": (1,)}), ())
        self.assertEqual(dead_clause(wish, {"a": (1,), "b": (1, 2)}, {"a": (1,), "b": (1,)}), (("b", "is", 2),))

    def test_what_does_not_matter_is_left_out(self):
        wish = ("behind", ("a", "b", "c"), 1)
        first = dict.fromkeys("abc", (1, 2, 3, 4, 5))
        now = {"a": (3, 5), "b": (1, 4), "c": (2, 5)}
        told = self.assert_looked(wish, first, now, [("a", 5), ("b", 1), ("c", 2)])
        self.assertEqual(told[2][2], (("c", "not", 2),))
        self.assertEqual(told[0][2], (("a", "not", 5),))
        self.assertEqual(told[1][2], (("b", "not", 1),))
        self.assertIsNone(dead_clause(wish, first, now))
        self.assertEqual(dead_clause(wish, first, {"a": (1, 2), "b": (1, 5), "c": (4, 5)}), (("b", "is", 2), ("b", "is", 3), ("b", "is", 4)))

    def test_all_values_where_it_may_not_be_kept(self):
        first = {"a": (1, 2, 3), "b": (1, 2, 3), "c": (1, 2)}
        now = {"a": (1, 3), "b": (2, 3), "c": (2,)}
        wish = ("table", ("b", "c", "a"), ())
        told = self.assert_looked(wish, first, now, [("b", 2), ("b", 3), ("c", 2), ("a", 1), ("a", 3)])
        self.assertEqual([clause for cell, value, clause in told], [((cell, "not", value),) for cell, value, clause in told])
        self.assertEqual(dead_clause(wish, first, now), ())

    def test_the_order_of_the_wishs_cells_then_of_values(self):
        first = dict.fromkeys("abcd", (-2, 0, 5))
        for wish in (("sum", ((1, "c"), (-2, "a"), (1, "b")), 100, None), ("many", (7,), ("c", "a", "b"), 1, 3),
                     ("way", ("c", "a", "b"), (), (0,)), ("same", "c", (), ("behind", ("a", "b"), -100))):
            self.assert_looked(wish, first, first, [(cell, value) for cell in "cab" for value in (-2, 0, 5)])
            self.assertEqual(dead_clause(wish, first, first), ())

    def test_same_takes_from_its_cell_and_from_the_others(self):
        wish = ("same", "c", (1, 2), ("unlike", ("a", "b")))
        first = {"a": (1, 2), "b": (1, 2), "c": (0, 1, 2)}
        told = self.assert_looked(wish, first, {"a": (1,), "b": (1,), "c": (0, 1)}, [("c", 1)])
        self.assertEqual(told[0][2], (("a", "is", 2), ("b", "is", 2), ("c", "not", 1)))
        told = self.assert_looked(wish, first, {"a": (1,), "b": (1, 2), "c": (0,)}, [("b", 2)])
        self.assertEqual(told[0][2], (("a", "is", 2), ("b", "not", 2), ("c", "is", 1), ("c", "is", 2)))
        self.assert_dead(wish, first, {"a": (1,), "b": (2,), "c": (0,)}, False)


class ByAllTest(LookersTestCase):
    def test_all_sorts_as_all_fillings_tell(self):
        chance = random.Random(91)
        told = {}
        for turn in range(4000):
            wish = random_wish(chance, "bdac")
            first = random_rooms(chance, "abcd", 5)
            now = within(chance, first, chance.choice((1, 2, 5)))
            expected = taken_by_all(wish, now)
            alone = of_the_wish(first, wish)
            follows = follows_by_all if turn % 8 == 0 else follows_from
            self.assert_looked(wish, alone if turn % 2 else first, now, expected, follows)
            may_keep = told_by_all(wish, now)[0]
            self.assert_dead(wish, alone if turn % 2 else first, now, may_keep, follows)
            told.setdefault(wish[0], set()).add((may_keep, len(expected) > 0))
        for sort in SORTS:
            self.assertIn((False, True), told[sort])
            self.assertIn((True, False), told[sort])
            self.assertIn((True, True), told[sort])

    def test_rooms_of_more_cells_change_nothing(self):
        chance = random.Random(92)
        for turn in range(300):
            wish = random_wish(chance, "abcd")
            first = random_rooms(chance, "abcd", 4)
            now = within(chance, first)
            more_first, more_now = dict(zz=TEN, **first, yy=(1, 2)), dict(yy=(1,), **now, zz=(4, 5))
            self.assertEqual(looked_at(wish, more_first, more_now), looked_at(wish, first, now))
            self.assertEqual(dead_clause(wish, more_first, more_now), dead_clause(wish, first, now))

    def test_longer_wishes_as_all_fillings_tell(self):
        chance = random.Random(93)
        for turn in range(150):
            cells = tuple(chance.sample("abcdef", 5))
            first = random_rooms(chance, "abcdef", 6)
            now = within(chance, first, 3)
            steps = tuple((state, value, chance.randint(0, 3)) for state in range(4) for value in range(-2, 4) if chance.random() < 0.8)
            rows = tuple(set(tuple(chance.randint(-2, 3) for cell in cells) for row in range(60)))
            for plain in (("unlike", cells), ("behind", cells, chance.choice((-1, 0, 1))), ("many", (0, 1), cells, 2, 3),
                          ("way", cells, steps, (1, 2)), ("table", cells, rows)):
                for wish in (plain, ("same", "z", (1, 2), plain)):
                    rooms = dict(now, z=chance.choice(((1,), (0, 1), (3,))))
                    whole = dict(first, z=(0, 1, 2, 3))
                    self.assert_looked(wish, whole, rooms, taken_by_all(wish, rooms))
                    self.assert_dead(wish, whole, rooms, told_by_all(wish, rooms)[0])


class LongTest(LookersTestCase):
    def test_unlikes(self):
        first = dict.fromkeys(TWELVE, TEN)
        wish = ("unlike", TWELVE[:10])
        self.assertEqual(self.assert_long(wish, first, first), [])
        # Five cells have five values together: they are taken away from the others.
        now = dict(first, **{name: (1, 3, 5, 7, 9) for name in TWELVE[3:8]})
        told = self.assert_long(wish, first, now)
        self.assertEqual([(cell, value) for cell, value, clause in told],
                         [(cell, value) for cell in TWELVE[:3] + TWELVE[8:10] for value in (1, 3, 5, 7, 9)])
        self.assertTrue(all(len(clause) == 26 for cell, value, clause in told))
        # Six of twelve have five values.
        apart = {name: tuple(range(10 * place, 10 * place + 10)) for place, name in enumerate(TWELVE)}
        wide = {name: tuple(sorted((1, 2, 3, 4, 5) + room[-5:])) for name, room in apart.items()}
        now = {name: room[:5] if name in TWELVE[::2] else room for name, room in wide.items()}
        clause = dead_clause(("unlike", TWELVE), wide, now)
        self.assert_dead(("unlike", TWELVE), wide, now, False)
        self.assertTrue({cell for cell, word, value in clause} <= set(TWELVE[::2]))
        self.assertEqual(len(self.assert_long(("unlike", TWELVE), wide, now)), 90)
        self.assertEqual(dead_clause(("unlike", TWELVE), first, first), ())

    def test_manies(self):
        first = dict.fromkeys(TWELVE, TEN)
        wish = ("many", (2, 4, 6), TWELVE[::-1], 4, 5)
        now = dict(first, **{name: (2, 4) for name in TWELVE[:5]})
        told = self.assert_long(wish, first, now)
        self.assertEqual([(cell, value) for cell, value, clause in told],
                         [(cell, value) for cell in TWELVE[:4:-1] for value in (2, 4, 6)])
        self.assertTrue(all(len(clause) == 1 + 5 * 7 for cell, value, clause in told))
        now["f"] = (6,)
        self.assertEqual(len(self.assert_long(wish, first, now)), 71)
        self.assertEqual(len(dead_clause(wish, first, now)), 6 * 7)
        now = dict(first, **{name: (0, 1) for name in TWELVE[:8]})
        self.assertEqual(len(self.assert_long(wish, first, now)), 4 * 7)

    def test_behinds(self):
        first = dict.fromkeys(TWELVE, TEN)
        wish = ("behind", TWELVE[:10], 1)
        told = self.assert_long(wish, first, first)
        self.assertEqual(len(told), 90)
        self.assertTrue(all(len(clause) == 1 for cell, value, clause in told))
        shifted = {name: tuple(range(2 * place, 2 * place + 10)) for place, name in enumerate(TWELVE)}
        now = dict(shifted, a=(8, 9))
        told = self.assert_long(("behind", TWELVE, 2), shifted, now)
        self.assertEqual([(cell, value) for cell, value, clause in told if cell == "b"], [("b", value) for value in range(2, 10)])
        self.assertIsNone(dead_clause(("behind", TWELVE, 2), shifted, now))
        now["l"] = (22, 23, 24)
        self.assertEqual(len(self.assert_long(("behind", TWELVE, 2), shifted, now)), 2 + 100 + 3)

    def test_tables_of_sixty_rows(self):
        chance = random.Random(94)
        first = dict.fromkeys(TWELVE, TEN)
        for turn in range(6):
            rows = tuple(set(tuple(chance.choice(TEN) for cell in TWELVE) for row in range(60)))
            wish = ("table", tuple(chance.sample(TWELVE, 12)), rows)
            self.assert_long(wish, first, first)
            cell = chance.choice(TWELVE)
            self.assert_long(wish, first, dict(first, **{cell: (3, 4)}))
            self.assert_long(wish, first, within(chance, first))

    def test_ways_of_sixty_steps(self):
        chance = random.Random(95)
        first = dict.fromkeys(TWELVE, (0, 1, 2, 3))
        for ends in ((20,), (0,), (7, 13), ()):
            wish = ("way", TWELVE, STEPS, ends)
            told = self.assert_long(wish, first, first)
            self.assertEqual({value for cell, value, clause in told} >= {3}, True)
            for turn in range(3):
                self.assert_long(wish, first, dict(first, **within(chance, dict.fromkeys(TWELVE[::2], (0, 1, 2)))))

    def test_sums_of_six_cells(self):
        chance = random.Random(96)
        names = NAMES[:6]
        first = dict.fromkeys(names, (-FAR, -7, 3, 999983))
        terms = tuple(zip((FAR, -999999, 31337, -1, 500009, 2), names))
        for turn in range(4):
            now = within(chance, first, 3)
            filling = {name: chance.choice(now[name]) for name in names}
            worth = sum(factor * filling[name] for factor, name in terms)
            for low, high in ((worth, worth), (worth + 1, worth + 1), (worth, None), (None, worth)):
                wish = ("sum", terms, low, high)
                expected = taken_by_all(wish, now)
                self.assert_dead(wish, first, now, told_by_all(wish, now)[0])
                self.assert_looked(wish, first, now, expected)

    def test_sums_of_four_cells_of_eight_values(self):
        names = NAMES[:4]
        first = dict.fromkeys(names, TEN[:8])
        wish = ("sum", tuple((factor, name) for factor, name in zip((1, 10, 100, 1000), names)), 3456, 3456)
        now = dict(first, c=(2, 4), d=(3, 5))
        self.assertEqual([(cell, value) for cell, value, clause in self.assert_long(wish, first, now)],
                         [("a", value) for value in (0, 1, 2, 3, 4, 5, 7)] + [("b", value) for value in (0, 1, 2, 3, 4, 6, 7)]
                         + [("c", 2), ("d", 5)])
        self.assert_long(wish, first, dict(first, c=(2, 3)))
        self.assert_long(wish, first, dict(first, a=(1, 2), b=(3,), c=(2, 3), d=(0, 7)))

    def test_sames_of_twelve_and_their_own(self):
        chance = random.Random(97)
        first = dict.fromkeys(TWELVE + ("z",), TEN)
        inners = (("unlike", TWELVE[:10]), ("many", (0, 9), TWELVE, 1, 2), ("behind", TWELVE[:10], 1), ("way", TWELVE, STEPS, (20, 0)),
                  ("table", TWELVE, tuple(tuple((row + place) % 10 for place in range(12)) for row in range(10))))
        for inner in inners:
            wish = ("same", "z", (3, 5), inner)
            self.assertEqual(self.assert_long(wish, first, first), [])
            for room in ((3, 5), (0, 1, 2), (2, 3)):
                self.assert_long(wish, first, dict(first, z=room))
                self.assert_long(wish, first, dict(within(chance, first, 4), z=room))
                self.assert_long(wish, first, dict(within(chance, first, 1), z=room))

    def test_greatest_and_ordinary_wishes(self):
        chance = random.Random(98)
        room = (-FAR, -1, 0, 1, 2, 3, FAR - 1, FAR)
        for group in (ORDINARY, GREATEST):
            for sort, wish in group.items():
                first = {name: room[:4] if sort == "sum" else room for name in cells_of(wish)}
                self.assert_long(wish, first, first)
                self.assert_long(wish, first, within(chance, first))
                self.assert_long(wish, first, within(chance, first, 1))


class AskedAgainTest(LookersTestCase):
    def test_what_is_handed_in_stays(self):
        chance = random.Random(99)
        for turn in range(200):
            wish = random_wish(chance, "abcd")
            first = random_rooms(chance, "dcab", 4)
            now = within(chance, first)
            before = copy.deepcopy((wish, first, now))
            looked_at(wish, first, now)
            dead_clause(wish, first, now)
            self.assertEqual((wish, first, now), before)
            self.assertEqual((list(first), list(now)), (list("dcab"), list("dcab")))

    def test_what_is_changed_behind_a_call_changes_nothing(self):
        wish = ("unlike", ("a", "b"))
        first = {"a": (1, 2), "b": (1, 2)}
        now = {"a": (1,), "b": (1, 2)}
        told = looked_at(wish, first, now)
        expected = list(told)
        told.clear()
        self.assertEqual(looked_at(wish, first, now), expected)
        first["a"] = (1,)
        self.assertEqual(looked_at(wish, first, now), [("b", 1, (("b", "not", 1),))])
        now["b"] = (2,)
        self.assertEqual(looked_at(wish, first, now), [])
        self.assertEqual(expected, [("b", 1, (("a", "is", 2), ("b", "not", 1)))])

    def test_asked_again_it_is_the_same(self):
        chance = random.Random(100)
        questions = []
        for turn in range(100):
            first = random_rooms(chance, "abcd", 4)
            questions.append((random_wish(chance, "abcd"), first, within(chance, first)))
        answers = [(looked_at(*question), dead_clause(*question)) for question in questions]
        for question, answer in reversed(list(zip(questions, answers))):
            self.assertEqual((looked_at(*question), dead_clause(*question)), answer)

    def test_taken_away_until_nothing_is_told(self):
        chance = random.Random(101)
        for turn in range(300):
            wish = random_wish(chance, "abcd")
            first = random_rooms(chance, "abcd", 4)
            now = within(chance, first)
            if dead_clause(wish, first, now) is None:
                taken = [(cell, value) for cell, value, clause in looked_at(wish, first, now)]
                left = {name: tuple(value for value in room if (name, value) not in taken) for name, room in now.items()}
                self.assertTrue(all(left.values()))
                self.assertEqual(looked_at(wish, first, left), [])
                kept = [filling for filling in every_filling(of_the_wish(left, wish)) if kept_by_the_words(wish, filling)]
                for name, value in itertools.chain.from_iterable(((name, value) for value in left[name]) for name in cells_of(wish)):
                    self.assertTrue(any(filling[name] == value for filling in kept))
