"""The wishes table, way, behind and same, and all seven sorts asked by their tuples."""

import copy
import itertools
import random
import unittest

from helper import FAR, FORTY, GREATEST, LEAST, NAMES, ORDINARY, SORTS, TEN, every_filling, kept_by_the_words, random_rooms
from helper import random_wish, sample_wishes, told_by_all
from seekhall.behinds import Behind
from seekhall.forms import cells_of
from seekhall.manies import Many
from seekhall.sames import Same
from seekhall.sorts import is_kept, may_be_broken, may_be_kept, wish_of
from seekhall.steps import Way
from seekhall.sums import Sum
from seekhall.tables import Table
from seekhall.unlikes import Unlike

CLASSES = {"unlike": Unlike, "many": Many, "sum": Sum, "table": Table, "way": Way, "behind": Behind, "same": Same}
TWELVE = NAMES[:12]


class SortsTestCase(unittest.TestCase):
    def assert_kept(self, wish, names, kept, broken):
        for expected, fillings in ((True, kept), (False, broken)):
            for values in fillings:
                filling = dict(zip(names, values))
                for asked in (filling, dict(filling, zz=values[0], yy=9)):
                    self.assertIs(is_kept(wish, asked), expected, (wish, asked))
                    self.assertIs(wish_of(wish).kept(asked), expected, (wish, asked))

    def assert_told(self, wish, rooms, may_keep, may_break):
        for asked in (rooms, dict(rooms, zz=(1,), yy=TEN)):
            self.assertIs(may_be_kept(wish, asked), may_keep, (wish, rooms))
            self.assertIs(may_be_broken(wish, asked), may_break, (wish, rooms))
            self.assertIs(wish_of(wish).may_keep(asked), may_keep, (wish, rooms))
            self.assertIs(wish_of(wish).may_break(asked), may_break, (wish, rooms))

    def assert_told_by_all(self, wish, rooms):
        self.assert_told(wish, rooms, *told_by_all(wish, rooms))

    def filled_by(self, may_be, wish, rooms):
        """A filling to which the rooms are put down cell by cell, each time to the first value with which it may be so."""
        left = dict(rooms)
        for cell in cells_of(wish):
            found = [value for value in left[cell] if may_be(wish, dict(left, **{cell: (value,)}))]
            self.assertTrue(found, (wish, left, cell))
            left[cell] = (found[0],)
        return {cell: room[0] for cell, room in left.items()}

    def assert_can_be_filled(self, wish, rooms):
        """Each answer is borne out by a filling, or told against by the other one; gives both answers."""
        answers = (may_be_kept(wish, rooms), may_be_broken(wish, rooms))
        if answers[0]:
            self.assertIs(kept_by_the_words(wish, self.filled_by(may_be_kept, wish, rooms)), True)
        if answers[1]:
            self.assertIs(kept_by_the_words(wish, self.filled_by(may_be_broken, wish, rooms)), False)
        self.assertIn(True, answers)
        return answers


class WishOfTest(unittest.TestCase):
    def test_an_object_of_its_sorts_class(self):
        for wish in sample_wishes():
            asked = wish_of(wish)
            self.assertEqual([sort for sort, one in CLASSES.items() if isinstance(asked, one)], [wish[0]])

    def test_a_new_object_each_time(self):
        for wish in sample_wishes():
            self.assertIsNot(wish_of(wish), wish_of(wish))


class KeptTest(SortsTestCase):
    def test_table(self):
        self.assert_kept(("table", ("b", "a"), ((1, 2), (-3, 3))), "ab", [(2, 1), (3, -3)], [(1, 2), (2, -3), (10 ** 9, 1)])
        self.assert_kept(("table", ("a",), ((0,), (5,))), "a", [(0,), (5,)], [(1,), (-5,)])

    def test_table_without_rows(self):
        self.assert_kept(("table", ("a", "b"), ()), "ab", [], [(0, 0), (1, 2), (-FAR, FAR)])

    def test_way(self):
        wish = ("way", ("a", "b", "c"), ((0, 1, 1), (1, 1, 1), (1, 2, 2), (2, 3, 0)), (1, 0))
        self.assert_kept(wish, "abc", [(1, 1, 1), (1, 2, 3)], [(1, 1, 2), (1, 2, 1), (2, 2, 3), (1, 3, 1), (1, 1, 3)])
        self.assert_kept(("way", ("c", "a"), ((0, 1, 3), (3, 2, 4)), (4,)), "ac", [(2, 1)], [(1, 2), (1, 1), (2, 2)])

    def test_way_where_a_step_lacks(self):
        wish = ("way", ("a", "b"), ((0, 1, 0), (0, 2, 7)), (0, 7))
        self.assert_kept(wish, "ab", [(1, 1), (1, 2)], [(2, 1), (2, 2), (3, 1), (1, 3), (10 ** 12, 1)])
        self.assert_kept(("way", ("a",), (), (0,)), "a", [], [(0,), (1,)])
        self.assert_kept(("way", ("a",), ((1, 1, 1),), (1,)), "a", [], [(0,), (1,)])

    def test_way_with_no_ends_and_with_all(self):
        steps = ((0, 1, 20), (20, 1, 0), (20, 2, 20))
        self.assert_kept(("way", ("a", "b"), steps, ()), "ab", [], [(1, 1), (1, 2), (2, 2)])
        self.assert_kept(("way", ("a", "b"), steps, tuple(range(21))), "ab", [(1, 1), (1, 2)], [(2, 1), (1, 3)])

    def test_behind(self):
        self.assert_kept(("behind", ("b", "a"), 2), "ab", [(3, 1), (10 ** 9, 0)], [(2, 1), (1, 3), (1, 1)])
        self.assert_kept(("behind", ("a", "b", "c"), 0), "abc", [(1, 1, 1), (1, 1, 2)], [(1, 2, 1), (2, 1, 1)])
        self.assert_kept(("behind", ("a", "b", "c"), -2), "abc", [(5, 3, 1), (1, 9, 7)], [(5, 2, 9), (1, 9, 6)])
        self.assert_kept(("behind", ("a", "b"), 10 ** 9), "ab", [(0, 10 ** 9), (-FAR, 10 ** 9)], [(0, 10 ** 9 - 1), (-FAR, FAR)])
        self.assert_kept(("behind", ("a", "b"), -(10 ** 9)), "ab", [(10 ** 9, 0), (FAR, -FAR)], [(10 ** 9 + 1, 0)])
        self.assert_kept(("behind", ("a",), 10 ** 9), "a", [(0,), (-5,)], [])

    def test_same_of_each_of_the_six_others(self):
        inner = {
            "unlike": (("unlike", ("a", "b")), (1, 2), (2, 2)),
            "many": (("many", (1, 3), ("a", "b"), 1, 1), (1, 2), (1, 3)),
            "sum": (("sum", ((2, "a"), (-1, "b")), 0, None), (1, 2), (0, 2)),
            "table": (("table", ("a", "b"), ((1, 2),)), (1, 2), (2, 1)),
            "way": (("way", ("a", "b"), ((0, 1, 1), (1, 2, 2)), (2,)), (1, 2), (1, 1)),
            "behind": (("behind", ("a", "b"), 1), (1, 2), (2, 2)),
        }
        self.assertEqual(tuple(inner), SORTS[:6])
        for wish, kept, broken in inner.values():
            self.assert_kept(("same", "c", (5, 7), wish), "abc", [kept + (5,), kept + (7,), broken + (6,), broken + (-5,)],
                             [kept + (6,), kept + (0,), broken + (5,), broken + (7,)])
            self.assert_kept(("same", "c", (), wish), "abc", [broken + (5,), broken + (0,)], [kept + (5,), kept + (0,)])

    def test_same_of_a_wish_with_low_above_high(self):
        for wish in (("many", (1,), ("a",), 2, 1), ("sum", ((1, "a"),), 2, 1)):
            self.assert_kept(wish, "a", [], [(0,), (1,), (2,), (3,)])
            self.assert_kept(("same", "c", (5,), wish), "ac", [(1, 4), (2, 6)], [(1, 5), (2, 5)])

    def test_all_sorts_against_the_words_of_the_document(self):
        chance = random.Random(41)
        told = {}
        for turn in range(7000):
            wish = random_wish(chance, "abcd")
            filling = {name: chance.choice((-2, -1, 0, 1, 2, 3, FAR)) for name in "dcbaef"}
            expected = kept_by_the_words(wish, filling)
            told.setdefault(wish[0], set()).add(expected)
            self.assertIs(is_kept(wish, filling), expected)
            self.assertIs(wish_of(wish).kept(filling), expected)
        self.assertEqual(told, dict.fromkeys(SORTS, {True, False}))


class MayTest(SortsTestCase):
    def test_table(self):
        wish = ("table", ("b", "a"), ((1, 2), (2, 1), (3, 3)))
        self.assert_told(wish, {"a": (1, 2), "b": (1, 2)}, True, True)
        self.assert_told(wish, {"a": (1,), "b": (1,)}, False, True)
        self.assert_told(wish, {"a": (2,), "b": (1,)}, True, False)
        self.assert_told(wish, {"a": (1, 3), "b": (1,)}, False, True)

    def test_table_without_rows(self):
        self.assert_told(("table", ("a", "b"), ()), {"a": (1,), "b": (1, 2)}, False, True)

    def test_table_with_all_rows_and_with_all_but_one(self):
        rooms = {"a": (0, 1, 2), "b": (-1, 1), "c": TEN}
        rows = tuple(itertools.product((0, 1, 2), (-1, 1), TEN))
        self.assertEqual(len(rows), 60)
        self.assert_told(("table", ("a", "b", "c"), rows), rooms, True, False)
        for left_out in (0, 17, 59):
            wish = ("table", ("a", "b", "c"), rows[:left_out] + rows[left_out + 1:])
            self.assert_told(wish, rooms, True, True)
            alone = {name: (value,) for name, value in zip("abc", rows[left_out])}
            self.assert_told(wish, alone, False, True)
            for name in "abc":
                fewer = tuple(value for value in rooms[name] if value not in alone[name])
                self.assert_told(wish, dict(rooms, **{name: fewer}), True, False)

    def test_table_with_rows_outside_of_the_rooms(self):
        rows = ((1, 1), (1, 2), (5, 1), (1, 5), (5, 5))
        self.assert_told(("table", ("a", "b"), rows), {"a": (1,), "b": (1, 2)}, True, False)
        self.assert_told(("table", ("a", "b"), rows), {"a": (1, 2), "b": (1, 2)}, True, True)
        self.assert_told(("table", ("a", "b"), rows), {"a": (2,), "b": (1, 2)}, False, True)

    def test_way(self):
        steps = ((0, 1, 1), (0, 2, 2), (1, 1, 1), (1, 2, 2), (2, 2, 2))
        wish = ("way", ("a", "b", "c"), steps, (2,))
        self.assert_told(wish, dict.fromkeys("abc", (1, 2)), True, True)
        self.assert_told(wish, {"a": (1, 2), "b": (1, 2), "c": (1,)}, False, True)
        self.assert_told(wish, {"a": (1,), "b": (1, 2), "c": (2,)}, True, False)
        self.assert_told(wish, {"a": (2,), "b": (1,), "c": (2,)}, False, True)

    def test_way_broken_alone_where_there_is_no_step(self):
        steps = ((0, 1, 1), (1, 1, 1), (1, 2, 0))
        for ends, may_keep in ((tuple(range(21)), True), ((), False)):
            wish = ("way", ("a", "b"), steps, ends)
            self.assert_told(wish, {"a": (1, 2), "b": (1,)}, may_keep, True)
            self.assert_told(wish, {"a": (1,), "b": (1, 3)}, may_keep, True)
            self.assert_told(wish, {"a": (1,), "b": (1, 2)}, may_keep, not may_keep)
            self.assert_told(wish, {"a": (2, 3), "b": (1, 2)}, False, True)
        self.assert_told(("way", ("a", "b"), (), (0,)), {"a": (0,), "b": (0,)}, False, True)

    def test_behind(self):
        wish = ("behind", ("b", "a", "c"), 1)
        self.assert_told(wish, dict.fromkeys("abc", (1, 2, 3)), True, True)
        self.assert_told(wish, dict.fromkeys("abc", (1, 2)), False, True)
        self.assert_told(wish, {"b": (0, 1), "a": (2, 3), "c": (4,)}, True, False)
        self.assert_told(wish, {"b": (0, 2), "a": (2, 3), "c": (4,)}, True, True)
        self.assert_told(wish, {"b": (3,), "a": (1, 3), "c": (9,)}, False, True)

    def test_behind_with_gaps_of_all_kinds(self):
        rooms = {"a": (-FAR, 0), "b": (0, FAR)}
        for gap, may_keep, may_break in ((0, True, False), (1, True, True), (2 * FAR, True, True), (2 * FAR + 1, False, True),
                                         (10 ** 9, False, True), (-1, True, False), (-(10 ** 9), True, False)):
            self.assert_told(("behind", ("a", "b"), gap), rooms, may_keep, may_break)
        for gap, may_keep, may_break in ((0, True, True), (-FAR, True, True), (-2 * FAR, True, False), (1 - 2 * FAR, True, True)):
            self.assert_told(("behind", ("b", "a"), gap), rooms, may_keep, may_break)
        for gap in (10 ** 9, 0, -(10 ** 9)):
            self.assert_told(("behind", ("b",), gap), rooms, True, False)

    def test_same(self):
        wish = ("same", "c", (1, 2), ("unlike", ("a", "b")))
        either = {"a": (1, 2), "b": (1, 2)}
        kept = {"a": (1, 2), "b": (3,)}
        broken = {"a": (4,), "b": (4,)}
        for room in ((0, 1), (1, 2), (0, 3)):
            self.assert_told(wish, dict(either, c=room), True, True)
        self.assert_told(wish, dict(kept, c=(1, 2)), True, False)
        self.assert_told(wish, dict(kept, c=(0, 2)), True, True)
        self.assert_told(wish, dict(kept, c=(0, 3)), False, True)
        self.assert_told(wish, dict(broken, c=(1, 2)), False, True)
        self.assert_told(wish, dict(broken, c=(0, 2)), True, True)
        self.assert_told(wish, dict(broken, c=(0,)), True, False)

    def test_same_of_each_sort_with_values_none_some_all(self):
        chance = random.Random(42)
        told = {}
        for turn in range(3000):
            inner = random_wish(chance, "bcd", SORTS[:6])
            rooms = random_rooms(chance, "abcd", chance.choice((1, 2, 4)))
            some = tuple(chance.sample(rooms["a"], chance.randint(1, len(rooms["a"])))) + (99, -99)
            for kind, values in (("none", ()), ("outside", (99, 98)), ("some", some), ("all", rooms["a"])):
                wish = ("same", "a", values, inner)
                answers = told_by_all(wish, rooms)
                told.setdefault((inner[0], kind), set()).add(answers)
                self.assert_told(wish, rooms, *answers)
        self.assertEqual(set(told), set(itertools.product(SORTS[:6], ("none", "outside", "some", "all"))))
        for answers in told.values():
            self.assertEqual(answers, {(True, True), (True, False), (False, True)})

    def test_low_above_high(self):
        for low, high in ((1, 0), (3, 2), (10 ** 9, 0)):
            for inner in (("many", (1,), ("a", "b"), low, high), ("sum", ((1, "a"), (2, "b")), low, high)):
                for rooms in (dict.fromkeys("ab", (0, 1, 2)), dict.fromkeys("ab", (1,))):
                    self.assert_told(inner, rooms, False, True)
                    self.assert_told(("same", "c", (1,), inner), dict(rooms, c=(1, 2)), True, True)
                    self.assert_told(("same", "c", (1,), inner), dict(rooms, c=(1,)), False, True)
                    self.assert_told(("same", "c", (1,), inner), dict(rooms, c=(2, 3)), True, False)

    def test_all_sorts_as_all_fillings_tell(self):
        chance = random.Random(43)
        told = {}
        for turn in range(7000):
            wish = random_wish(chance, "dacb")
            rooms = random_rooms(chance, "abcd", chance.choice((1, 2, 4)))
            answers = told_by_all(wish, rooms)
            told.setdefault(wish[0], set()).add(answers)
            self.assert_told(wish, rooms, *answers)
        self.assertEqual(told, dict.fromkeys(SORTS, {(True, True), (True, False), (False, True)}))

    def test_rooms_with_values_less(self):
        chance = random.Random(44)
        for turn in range(400):
            wish = random_wish(chance, "abcd")
            rooms = random_rooms(chance, "abcd", 4)
            for name in cells_of(wish):
                for value in rooms[name]:
                    self.assert_told_by_all(wish, dict(rooms, **{name: (value,)}))
                    fewer = tuple(other for other in rooms[name] if other != value)
                    if fewer:
                        self.assert_told_by_all(wish, dict(rooms, **{name: fewer}))

    def test_longer_ways_and_behinds_as_all_fillings_tell(self):
        chance = random.Random(45)
        for turn in range(300):
            cells = tuple(chance.sample("abcdef", 6))
            rooms = random_rooms(chance, "abcdef", 3)
            steps = tuple((state, value, chance.randint(0, 3)) for state in range(4) for value in range(-2, 4) if chance.random() < 0.9)
            self.assert_told_by_all(("way", cells, steps, tuple(chance.sample(range(4), 2))), rooms)
            self.assert_told_by_all(("behind", cells, chance.choice((-5, -2, -1, 0, 1))), rooms)


class AskedAgainTest(SortsTestCase):
    def test_rooms_and_fillings_that_are_changed_behind_a_call(self):
        rooms = {"a": (1,), "b": (1,), "c": (5,)}
        filling = {"a": 1, "b": 1, "c": 5}
        for wish in (("table", ("a", "b"), ((1, 2),)), ("way", ("a", "b"), ((0, 1, 1), (1, 2, 2)), (2,)), ("behind", ("a", "b"), 1),
                     ("same", "c", (5,), ("unlike", ("a", "b")))):
            asked = wish_of(wish)
            rooms["b"] = (1,)
            filling["b"] = 1
            self.assertEqual((asked.may_keep(rooms), asked.may_break(rooms), asked.kept(filling)), (False, True, False))
            rooms["b"] = (2,)
            filling["b"] = 2
            self.assertEqual((asked.may_keep(rooms), asked.may_break(rooms), asked.kept(filling)), (True, False, True))

    def test_what_is_handed_in_stays(self):
        chance = random.Random(47)
        for turn in range(300):
            wish = random_wish(chance, "abcd")
            rooms = random_rooms(chance, "bdac", 4)
            filling = {name: room[0] for name, room in rooms.items()}
            before = copy.deepcopy((wish, rooms, filling))
            may_be_kept(wish, rooms)
            may_be_broken(wish, rooms)
            is_kept(wish, filling)
            self.assertEqual((wish, rooms, filling), before)
            self.assertEqual((list(rooms), list(filling)), (list("bdac"), list("bdac")))


class LongTest(SortsTestCase):
    def test_sample_wishes_in_their_rooms(self):
        room = (-FAR, -1, 0, 1, 2, 3, FAR - 1, FAR)
        for group in (ORDINARY, GREATEST, LEAST):
            for sort, wish in group.items():
                size = 4 if sort == "sum" else 8
                self.assert_can_be_filled(wish, {name: room[:size] for name in NAMES})
                self.assert_can_be_filled(wish, {name: room[-size:] for name in NAMES[::-1]})

    def test_tables_of_sixty_rows(self):
        chance = random.Random(48)
        rooms = dict.fromkeys(TWELVE, TEN)
        for turn in range(20):
            rows = tuple(set(tuple(chance.choice(TEN) for cell in TWELVE) for row in range(60)))
            wish = ("table", tuple(chance.sample(TWELVE, 12)), rows)
            self.assertEqual(self.assert_can_be_filled(wish, rooms), (True, True))
            row = rows[turn]
            alone = {cell: (value,) for cell, value in zip(wish[1], row)}
            self.assert_told(wish, alone, True, False)
            self.assert_told(("table", wish[1], tuple(other for other in rows if other != row)), alone, False, True)
            spoilt = {cell: tuple(value for value in TEN if value != row[place]) for place, cell in enumerate(wish[1])}
            self.assert_told(("table", wish[1], (row,)), dict(rooms, **{wish[1][turn % 12]: spoilt[wish[1][turn % 12]]}), False, True)

    def test_ways_of_sixty_steps_and_states_to_twenty(self):
        steps = tuple((state, value, (state + value) % 21) for state in range(21) for value in (0, 1, 2))[:60]
        for ends in ((20,), (0, 13), tuple(range(21)), ()):
            wish = ("way", TWELVE, steps, ends)
            answers = self.assert_can_be_filled(wish, dict.fromkeys(TWELVE, TEN))
            self.assertEqual(answers, (len(ends) > 0, True))
        rooms = dict.fromkeys(TWELVE, (0, 1))
        self.assert_told(("way", TWELVE, steps, tuple(range(13))), rooms, True, False)
        self.assert_told(("way", TWELVE, steps, tuple(range(12))), rooms, True, True)
        self.assert_told(("way", TWELVE, steps, tuple(range(13, 21))), rooms, False, True)
        self.assert_told(("way", TWELVE, steps, (12,)), dict(rooms, a=(0,)), False, True)

    def test_ways_by_chance(self):
        chance = random.Random(49)
        told = set()
        for turn in range(60):
            pairs = chance.sample(list(itertools.product(range(21), range(4))), 60)
            steps = tuple(pair + (chance.randint(0, 20),) for pair in pairs)
            wish = ("way", tuple(chance.sample(TWELVE, 12)), steps, tuple(chance.sample(range(21), chance.randint(0, 3))))
            told.add(self.assert_can_be_filled(wish, dict.fromkeys(TWELVE, TEN)))
        self.assertEqual(told, {(True, True), (False, True)})

    def test_behinds_of_twelve(self):
        rooms = {name: tuple(range(place, place + 10)) for place, name in enumerate(TWELVE)}
        for gap, answers in ((1, (True, True)), (0, (True, True)), (-8, (True, False)), (-7, (True, True)), (2, (False, True))):
            wish = ("behind", TWELVE, gap)
            self.assertEqual(self.assert_can_be_filled(wish, rooms), answers)
        self.assert_told(("behind", TWELVE, 1), dict.fromkeys(TWELVE, TEN), False, True)
        self.assert_told(("behind", TWELVE[:10], 1), dict.fromkeys(TWELVE, TEN), True, True)
        apart = {name: tuple(range(10 * place, 10 * place + 10)) for place, name in enumerate(TWELVE)}
        self.assert_told(("behind", TWELVE, 1), apart, True, False)
        self.assert_told(("behind", TWELVE, 2), apart, True, True)
        self.assert_told(("behind", TWELVE[::-1], -200), apart, True, False)

    def test_unlikes_and_manies_of_twelve(self):
        rooms = {name: tuple(range(place, place + 10)) for place, name in enumerate(TWELVE)}
        self.assertEqual(self.assert_can_be_filled(("unlike", TWELVE[::-1]), rooms), (True, True))
        self.assertEqual(self.assert_can_be_filled(("unlike", TWELVE), dict.fromkeys(TWELVE, TEN)), (False, True))
        for low, high, answers in ((0, 12, (True, False)), (12, 12, (True, True)), (0, 0, (True, True)), (13, 20, (False, True))):
            wish = ("many", (0, 3, 9, 60), TWELVE, low, high)
            self.assertEqual(self.assert_can_be_filled(wish, dict.fromkeys(TWELVE, TEN)), answers)

    def test_sames_of_twelve_and_their_own(self):
        rooms = dict({name: tuple(range(place, place + 10)) for place, name in enumerate(TWELVE)}, z=TEN)
        steps = tuple((state, value, (state + value) % 21) for state in range(21) for value in (0, 1, 12))[:60]
        inners = (("unlike", TWELVE), ("many", (0, 20), TWELVE, 1, 2), ("sum", ((2, "a"), (3, "b"), (-1, "c")), 10, 20),
                  ("table", TWELVE, tuple(tuple(range(row % 9, row % 9 + 12)) for row in range(9))),
                  ("way", TWELVE, steps, (20, 0)), ("behind", TWELVE, 1))
        for inner in inners:
            for values in ((), (3, 5), TEN, tuple(range(60))):
                for room in (TEN, (3,), (4,)):
                    answers = self.assert_can_be_filled(("same", "z", values, inner), dict(rooms, z=room))
                    plain = (may_be_kept(inner, rooms), may_be_broken(inner, rooms))
                    if all(value in values for value in room):
                        self.assertEqual(answers, plain)
                    elif not any(value in values for value in room):
                        self.assertEqual(answers, plain[::-1])
                    else:
                        self.assertEqual(answers, (True, True))

    def test_all_sorts_filled_cell_by_cell(self):
        chance = random.Random(50)
        told = {}
        for turn in range(1500):
            wish = random_wish(chance, "abcde")
            rooms = random_rooms(chance, "abcde", 4)
            told.setdefault(wish[0], set()).add(self.assert_can_be_filled(wish, rooms))
        for sort in SORTS:
            self.assertIn((True, True), told[sort])
            self.assertIn((False, True), told[sort])


class WholeHallTest(SortsTestCase):
    def test_a_hall_of_forty_cells_asked_of_each_sort(self):
        rooms = dict.fromkeys(FORTY, TEN)
        for wish in ORDINARY.values():
            self.assert_told(wish, dict(rooms, a=(1,), b=(2,), c=(3,)),
                             *told_by_all(wish, {"a": (1,), "b": (2,), "c": (3,)}))
        for filling in every_filling({"a": (1, 2), "b": (1, 3), "c": (1, 2)}):
            whole = dict(dict.fromkeys(FORTY, 0), **filling)
            for wish in ORDINARY.values():
                self.assertIs(is_kept(wish, whole), kept_by_the_words(wish, filling))
