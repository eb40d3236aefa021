import copy
import itertools
import random
import unittest

from helper import FAR, NAMES, TEN, every_filling, kept_by_the_words, random_rooms, random_wish, told_by_all
from seekhall.behinds import Behind
from seekhall.forms import cells_of
from seekhall.manies import Many
from seekhall.sames import Same
from seekhall.steps import Way
from seekhall.sums import Sum
from seekhall.tables import Table
from seekhall.unlikes import Unlike
from seekhall.wishes import Wish

CLASSES = {"unlike": Unlike, "many": Many, "sum": Sum, "table": Table, "way": Way, "behind": Behind, "same": Same}


def made(wish):
    return CLASSES[wish[0]](wish)


class WishTestCase(unittest.TestCase):
    def assert_told(self, wish, rooms, may_keep, may_break):
        asked = made(wish)
        self.assertIs(asked.may_keep(rooms), may_keep, (wish, rooms))
        self.assertIs(asked.may_break(rooms), may_break, (wish, rooms))

    def assert_told_by_all(self, wish, rooms):
        self.assert_told(wish, rooms, *told_by_all(wish, rooms))

    def assert_kept(self, wish, names, kept, broken):
        for expected, fillings in ((True, kept), (False, broken)):
            for values in fillings:
                filling = dict(zip(names, values))
                self.assertIs(made(wish).kept(filling), expected, (wish, filling))
                self.assertIs(made(wish).kept(dict(filling, zz=values[0], yy=9)), expected, (wish, filling))


class ClassesTest(unittest.TestCase):
    def test_each_stands_right_beneath_wish(self):
        for made_class in CLASSES.values():
            self.assertEqual(made_class.__bases__, (Wish,))

    def test_none_stands_beneath_another_one(self):
        for one, other in itertools.permutations(CLASSES.values(), 2):
            self.assertFalse(issubclass(one, other))

    def test_a_wish_has_the_three_methods(self):
        asked = Wish(("unlike", ("a", "b")))
        for name in ("kept", "may_keep", "may_break"):
            self.assertTrue(callable(getattr(asked, name)))
            for made_class in CLASSES.values():
                self.assertIn(name, vars(made_class))


class KeptTest(WishTestCase):
    def test_unlike(self):
        self.assert_kept(("unlike", ("a", "c", "b")), "abc", [(1, 2, 3), (-5, 0, 10 ** 9)], [(1, 2, 1), (1, 1, 2), (2, 7, 7), (0, 0, 0)])
        self.assert_kept(("unlike", ("a",)), "a", [(1,), (-10 ** 12,)], [])

    def test_many(self):
        self.assert_kept(("many", (1, 3), ("a", "b", "c"), 1, 2), "abc", [(1, 0, 0), (3, 1, 2), (10 ** 9, 1, 1)], [(0, 2, 2), (1, 1, 3)])
        self.assert_kept(("many", (), ("a", "b"), 0, 5), "ab", [(1, 2)], [])
        self.assert_kept(("many", (), ("a", "b"), 1, 5), "ab", [], [(1, 2)])
        self.assert_kept(("many", (0,), ("a", "b"), 2, 1), "ab", [], [(0, 0), (0, 1), (1, 1)])
        self.assert_kept(("many", (0,), ("a", "b"), 2, 10 ** 9), "ab", [(0, 0)], [(0, 1), (1, 1)])
        self.assert_kept(("many", (0,), ("a", "b"), 0, 0), "ab", [(1, 1)], [(0, 1), (0, 0)])

    def test_sum(self):
        self.assert_kept(("sum", ((2, "a"), (-1, "b")), 0, 3), "ab", [(1, 2), (2, 1), (10 ** 9, 2 * 10 ** 9)], [(0, 1), (3, 2)])
        self.assert_kept(("sum", ((2, "a"), (-1, "b")), None, 0), "ab", [(-2, 3), (1, 2), (-(10 ** 20), 0)], [(1, 1)])
        self.assert_kept(("sum", ((2, "a"), (-1, "b")), 1, None), "ab", [(3, 0), (1, 1), (10 ** 20, 0)], [(1, 2)])
        self.assert_kept(("sum", ((1, "a"),), None, None), "a", [(-2,), (10 ** 20,), (-(10 ** 20),)], [])
        self.assert_kept(("sum", ((1, "a"),), 2, 1), "a", [], [(0,), (1,), (2,), (3,)])
        self.assert_kept(("sum", ((1, "a"),), 2, 2), "a", [(2,)], [(1,), (3,)])

    def test_against_the_words_of_the_document(self):
        chance = random.Random(7)
        told = {}
        for turn in range(7000):
            wish = random_wish(chance, "abcd", tuple(CLASSES))
            filling = {name: chance.randint(-2, 3) for name in "abcdef"}
            expected = kept_by_the_words(wish, filling)
            told.setdefault(wish[0], set()).add(expected)
            self.assertIs(made(wish).kept(filling), expected)
        self.assertEqual(told, dict.fromkeys(CLASSES, {True, False}))


class MayTest(WishTestCase):
    def test_unlike(self):
        wish = ("unlike", ("a", "b", "c"))
        self.assert_told(wish, {"a": (1, 2), "b": (1, 2), "c": (1, 2)}, False, True)
        self.assert_told(wish, {"a": (1, 2), "b": (1, 2), "c": (1, 2, 3)}, True, True)
        self.assert_told(wish, {"a": (1,), "b": (2,), "c": (3, 4)}, True, False)
        self.assert_told(wish, {"a": (1,), "b": (5,), "c": (1,)}, False, True)
        self.assert_told(("unlike", ("a",)), {"a": (1, 2)}, True, False)

    def test_unlike_where_values_are_handed_round(self):
        self.assert_told(("unlike", ("a", "b", "c", "d")), {"a": (1, 2), "b": (1, 3), "c": (1, 4), "d": (1,)}, True, True)
        self.assert_told(("unlike", ("a", "b", "c", "d")), {"a": (1, 2), "b": (2, 3), "c": (3, 4), "d": (1,)}, True, True)
        self.assert_told(("unlike", ("a", "b", "c", "d")), {"a": (1, 2), "b": (2, 3), "c": (1, 3), "d": (1,)}, False, True)

    def test_many(self):
        wish = ("many", (1, 2), ("a", "b"), 1, 1)
        self.assert_told(wish, {"a": (1, 3), "b": (2, 3)}, True, True)
        self.assert_told(wish, {"a": (1, 2), "b": (3, 4)}, True, False)
        self.assert_told(wish, {"a": (1, 2), "b": (1,)}, False, True)
        self.assert_told(wish, {"a": (3,), "b": (4, 5)}, False, True)

    def test_many_with_low_above_high(self):
        for low, high in ((1, 0), (2, 1), (3, 0), (10 ** 9, 0)):
            for rooms in ({"a": (1,), "b": (1,)}, {"a": (1, 2), "b": (0, 1)}, {"a": (2,), "b": (3,)}):
                self.assert_told(("many", (1,), ("a", "b"), low, high), rooms, False, True)

    def test_many_of_no_values(self):
        self.assert_told(("many", (), ("a",), 0, 0), {"a": (1, 2)}, True, False)
        self.assert_told(("many", (), ("a",), 1, 1), {"a": (1, 2)}, False, True)

    def test_sum(self):
        wish = ("sum", ((10, "a"), (-10, "b")), 3, 7)
        self.assert_told(wish, {"a": (0, 1), "b": (0, 1)}, False, True)
        self.assert_told(("sum", ((10, "a"), (3, "b")), 3, 7), {"a": (0, 1), "b": (0, 1)}, True, True)
        self.assert_told(("sum", ((1, "a"), (1, "b")), 0, 4), {"a": (0, 2), "b": (0, 2)}, True, False)
        self.assert_told(("sum", ((1, "a"), (1, "b")), 1, 4), {"a": (0, 2), "b": (0, 2)}, True, True)
        self.assert_told(("sum", ((1, "a"), (1, "b")), 0, 3), {"a": (0, 2), "b": (0, 2)}, True, True)
        self.assert_told(("sum", ((-2, "a"), (1, "b")), 5, 6), {"a": (0, 2), "b": (0, 2)}, False, True)

    def test_sum_without_bounds(self):
        rooms = {"a": (-1, 3), "b": (0, 2)}
        terms = ((2, "a"), (-1, "b"))
        self.assert_told(("sum", terms, None, None), rooms, True, False)
        self.assert_told(("sum", terms, None, 6), rooms, True, False)
        self.assert_told(("sum", terms, None, 5), rooms, True, True)
        self.assert_told(("sum", terms, None, -4), rooms, True, True)
        self.assert_told(("sum", terms, None, -5), rooms, False, True)
        self.assert_told(("sum", terms, -4, None), rooms, True, False)
        self.assert_told(("sum", terms, -3, None), rooms, True, True)
        self.assert_told(("sum", terms, 6, None), rooms, True, True)
        self.assert_told(("sum", terms, 7, None), rooms, False, True)

    def test_sum_with_low_above_high(self):
        for low, high in ((1, 0), (5, -5), (3, 2), (10 ** 13, -(10 ** 13))):
            self.assert_told(("sum", ((1, "a"), (2, "b")), low, high), {"a": (0, 1, 2), "b": (-1, 0, 1)}, False, True)

    def test_just_as_all_fillings_tell(self):
        chance = random.Random(77)
        told = {}
        for turn in range(9000):
            wish = random_wish(chance, "abcd", tuple(CLASSES))
            rooms = random_rooms(chance, "abcd", chance.choice((1, 2, 4)))
            answers = told_by_all(wish, rooms)
            told.setdefault(wish[0], set()).add(answers)
            self.assert_told(wish, rooms, *answers)
        for answers in told.values():
            self.assertEqual(answers, {(True, True), (True, False), (False, True)})

    def test_longer_unlikes_as_all_fillings_tell(self):
        chance = random.Random(78)
        for turn in range(400):
            cells = tuple(chance.sample("abcdef", chance.randint(4, 6)))
            self.assert_told_by_all(("unlike", cells), random_rooms(chance, "abcdef", 3))

    def test_sums_with_great_factors_as_all_fillings_tell(self):
        chance = random.Random(79)
        for turn in range(400):
            terms = tuple((chance.choice((-1, 1)) * chance.randint(1, FAR), name) for name in chance.sample("abcd", 3))
            rooms = {name: tuple(sorted(chance.sample(range(-FAR, FAR + 1), 3))) for name in "abcd"}
            filling = {name: chance.choice(room) for name, room in rooms.items()}
            worth = sum(factor * filling[name] for factor, name in terms)
            for low, high in ((worth, worth), (worth + 1, worth + 1), (None, worth), (worth, None), (worth + 1, worth - 1)):
                self.assert_told_by_all(("sum", terms, low, high), rooms)


class AskedAgainTest(WishTestCase):
    def test_rooms_with_more_cells_and_with_one_value_less(self):
        chance = random.Random(80)
        for turn in range(700):
            wish = random_wish(chance, "abcd", tuple(CLASSES))
            rooms = random_rooms(chance, "abcd", 4)
            more = dict(rooms, e=(1,), f=TEN)
            self.assert_told(wish, more, *told_by_all(wish, rooms))
            for name in cells_of(wish):
                for value in rooms[name]:
                    room = tuple(other for other in rooms[name] if other != value)
                    if room:
                        self.assert_told_by_all(wish, dict(more, **{name: room}))

    def test_one_object_asked_behind_other_questions(self):
        chance = random.Random(81)
        for turn in range(500):
            wish = random_wish(chance, "abcd", tuple(CLASSES))
            asked = made(wish)
            many_rooms = [random_rooms(chance, "abcd", 3) for time in range(6)]
            for rooms in many_rooms + many_rooms[::-1]:
                may_keep, may_break = told_by_all(wish, rooms)
                self.assertIs(asked.may_break(rooms), may_break)
                self.assertIs(asked.may_keep(rooms), may_keep)
                filling = {name: chance.choice(room) for name, room in rooms.items()}
                self.assertIs(asked.kept(filling), kept_by_the_words(wish, filling))

    def test_rooms_that_are_changed_behind_a_call(self):
        asked = made(("unlike", ("a", "b")))
        rooms = {"a": (1,), "b": (1,)}
        self.assertEqual((asked.may_keep(rooms), asked.may_break(rooms)), (False, True))
        rooms["b"] = (2,)
        self.assertEqual((asked.may_keep(rooms), asked.may_break(rooms)), (True, False))

    def test_two_objects_of_one_class(self):
        first, second = made(("many", (1,), ("a",), 1, 1)), made(("many", (2,), ("b",), 0, 0))
        rooms = {"a": (1,), "b": (2,)}
        self.assertEqual((first.may_keep(rooms), second.may_keep(rooms), first.may_keep(rooms)), (True, False, True))

    def test_what_is_handed_in_stays(self):
        chance = random.Random(82)
        for turn in range(100):
            wish = random_wish(chance, "abcd", tuple(CLASSES))
            rooms = random_rooms(chance, "abcd", 4)
            filling = {name: room[0] for name, room in rooms.items()}
            before = copy.deepcopy((wish, rooms, filling))
            asked = made(wish)
            asked.may_keep(rooms)
            asked.may_break(rooms)
            asked.kept(filling)
            self.assertEqual((wish, rooms, filling), before)
            self.assertEqual((list(rooms), list(filling)), (list("abcd"), list("abcd")))


class LongTest(WishTestCase):
    def setUp(self):
        self.cells = NAMES[:12]

    def rooms(self, room):
        return dict.fromkeys(self.cells, room)

    def test_unlike_of_twelve_with_ten_values(self):
        self.assert_told(("unlike", self.cells), self.rooms(TEN), False, True)
        self.assert_told(("unlike", self.cells[:10]), self.rooms(TEN), True, True)
        rooms = {name: tuple(range(place, place + 10)) for place, name in enumerate(self.cells)}
        self.assert_told(("unlike", self.cells), rooms, True, True)
        apart = {name: tuple(range(10 * place, 10 * place + 10)) for place, name in enumerate(self.cells)}
        self.assert_told(("unlike", self.cells), apart, True, False)

    def test_unlike_where_some_have_fewer_values_together_than_they_are(self):
        rooms = {name: tuple(range(10 * place, 10 * place + 10)) for place, name in enumerate(self.cells)}
        for name in self.cells[6:]:
            rooms[name] = (1, 2, 3, 4, 5)
        self.assert_told(("unlike", self.cells), rooms, False, True)
        self.assert_told(("unlike", self.cells[::-1]), rooms, False, True)
        rooms[self.cells[6]] = (1, 2, 3, 4, 5, 200)
        self.assert_told(("unlike", self.cells), rooms, True, True)

    def test_unlike_where_two_of_twelve_have_one_value(self):
        for one, other in itertools.combinations(range(12), 2):
            rooms = {name: tuple(range(10 * place, 10 * place + 10)) for place, name in enumerate(self.cells)}
            rooms[self.cells[one]] = rooms[self.cells[other]] = (1000,)
            self.assert_told(("unlike", self.cells), rooms, False, True)
            rooms[self.cells[one]] = (1000, 1001)
            self.assert_told(("unlike", self.cells), rooms, True, True)

    def test_unlike_that_hands_values_through_all_twelve(self):
        rooms = {name: (place, place + 1) for place, name in enumerate(self.cells)}
        rooms[self.cells[-1]] = (0,)
        self.assert_told(("unlike", self.cells), rooms, True, True)
        rooms[self.cells[-2]] = (0, 10)
        self.assert_told(("unlike", self.cells), rooms, False, True)

    def test_many_of_twelve_with_ten_values(self):
        for low, high, may_keep, may_break in ((0, 12, True, False), (12, 12, True, True), (0, 0, True, True), (6, 6, True, True),
                                               (13, 10 ** 9, False, True), (10 ** 9, 0, False, True), (0, 10 ** 9, True, False)):
            self.assert_told(("many", (0, 5, 9), self.cells, low, high), self.rooms(TEN), may_keep, may_break)
        sixty = tuple(range(60))
        self.assert_told(("many", sixty, self.cells, 12, 12), self.rooms(TEN), True, False)
        self.assert_told(("many", sixty, self.cells, 0, 11), self.rooms(TEN), False, True)

    def test_sums_of_six_cells_to_the_bounds(self):
        names = NAMES[:6]
        rooms = dict.fromkeys(names, (-FAR, 0, 1, FAR))
        greatest = 6 * FAR * FAR
        terms = tuple((FAR, name) for name in names)
        self.assert_told(("sum", terms, -greatest, greatest), rooms, True, False)
        self.assert_told(("sum", terms, greatest, 10 ** 13), rooms, True, True)
        self.assert_told(("sum", terms, greatest + 1, 10 ** 13), rooms, False, True)
        self.assert_told(("sum", terms, -(10 ** 13), -greatest - 1), rooms, False, True)
        self.assert_told(("sum", terms, 1, FAR - 1), rooms, False, True)
        self.assert_told(("sum", terms, FAR, FAR), rooms, True, True)

    def test_sums_of_six_unlike_factors(self):
        names = NAMES[:6]
        rooms = dict.fromkeys(names, (-FAR, -7, 3, 999983))
        terms = tuple(zip((FAR, -999999, 31337, -1, 500009, 2), names))
        worths = {sum(factor * filling[name] for factor, name in terms) for filling in every_filling(rooms)}
        chance = random.Random(83)
        for worth in chance.sample(sorted(worths), 40):
            self.assert_told(("sum", terms, worth, worth), rooms, True, True)
            self.assert_told(("sum", terms, worth + 1, worth + 1), rooms, worth + 1 in worths, True)
        ordered = sorted(worths)
        for low, high in zip(ordered[::300], ordered[1::300]):
            self.assert_told(("sum", terms, low + 1, high - 1), rooms, False, True)
