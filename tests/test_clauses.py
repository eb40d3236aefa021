import copy
import random
import unittest

from helper import FAR, FORTY, GREATEST, NAMES, SORTS, TEN, every_filling, follows_by_all, holds_by_the_words, random_clause
from helper import random_rooms, random_wish
from seekhall.clauses import clause_holds, follows_from, narrowed_by

OUTSIDE = (9, -FAR)


class HoldsTest(unittest.TestCase):
    def test_one_literal(self):
        for value, other in ((1, 2), (0, -1), (-FAR, FAR)):
            filling = {"a": value, "b": other}
            self.assertIs(clause_holds((("a", "is", value),), filling), True)
            self.assertIs(clause_holds((("a", "is", other),), filling), False)
            self.assertIs(clause_holds((("a", "not", value),), filling), False)
            self.assertIs(clause_holds((("a", "not", other),), filling), True)

    def test_one_of_several_is_enough(self):
        clause = (("a", "is", 1), ("b", "not", 2), ("c", "is", 3))
        self.assertIs(clause_holds(clause, {"a": 1, "b": 2, "c": 0}), True)
        self.assertIs(clause_holds(clause, {"a": 0, "b": 1, "c": 0}), True)
        self.assertIs(clause_holds(clause, {"a": 0, "b": 2, "c": 3}), True)
        self.assertIs(clause_holds(clause, {"a": 0, "b": 2, "c": 0}), False)

    def test_no_literals_hold_in_no_filling(self):
        for filling in ({}, {"a": 1}, dict.fromkeys(NAMES, 0)):
            self.assertIs(clause_holds((), filling), False)

    def test_several_literals_of_one_cell(self):
        clause = (("a", "is", 1), ("a", "is", 2))
        self.assertEqual([clause_holds(clause, {"a": value}) for value in (0, 1, 2, 3)], [False, True, True, False])
        clause = (("a", "is", 1), ("a", "not", 1))
        self.assertEqual([clause_holds(clause, {"a": value}) for value in (0, 1)], [True, True])
        clause = (("a", "is", 1), ("a", "not", 2))
        self.assertEqual([clause_holds(clause, {"a": value}) for value in (1, 2, 3)], [True, False, True])

    def test_forty_literals(self):
        clause = tuple((name, "is", 5) for name in FORTY)
        self.assertEqual((len(clause), clause), (40, tuple(sorted(clause))))
        filling = dict.fromkeys(FORTY, 4)
        self.assertIs(clause_holds(clause, filling), False)
        for name in FORTY:
            self.assertIs(clause_holds(clause, dict(filling, **{name: 5})), True)

    def test_against_the_words_of_the_document(self):
        chance = random.Random(51)
        told = set()
        for turn in range(3000):
            rooms = random_rooms(chance, "abcd", 4)
            clause = random_clause(chance, rooms, 8, OUTSIDE)
            filling = {name: chance.choice(room + OUTSIDE) for name, room in rooms.items()}
            expected = holds_by_the_words(clause, filling)
            told.add(expected)
            before = (copy.deepcopy(clause), dict(filling))
            self.assertIs(clause_holds(clause, filling), expected)
            self.assertEqual((clause, filling), before)
        self.assertEqual(told, {True, False})


class NarrowedTest(unittest.TestCase):
    def test_is_takes_the_value_out(self):
        rooms = {"a": (1, 2, 3), "b": (1, 2)}
        self.assertEqual(narrowed_by(rooms, (("a", "is", 2),)), {"a": (1, 3), "b": (1, 2)})
        self.assertEqual(narrowed_by(rooms, (("a", "is", 1), ("a", "is", 3), ("b", "is", 1))), {"a": (2,), "b": (2,)})

    def test_not_takes_all_others_out(self):
        rooms = {"a": (1, 2, 3), "b": (1, 2)}
        self.assertEqual(narrowed_by(rooms, (("a", "not", 2),)), {"a": (2,), "b": (1, 2)})
        self.assertEqual(narrowed_by(rooms, (("a", "is", 1), ("a", "not", 3))), {"a": (3,), "b": (1, 2)})

    def test_none_just_where_a_room_becomes_empty(self):
        rooms = {"a": (1, 2), "b": (1,)}
        for clause in ((("a", "is", 1), ("a", "is", 2)), (("b", "is", 1),), (("a", "not", 1), ("a", "not", 2)),
                       (("a", "is", 1), ("a", "not", 1)), (("a", "not", 3),), (("a", "is", 1), ("b", "not", 7))):
            self.assertIsNone(narrowed_by(rooms, clause))
        for clause in ((), (("a", "is", 3),), (("b", "not", 1),), (("a", "is", 1), ("a", "not", 2)), (("b", "is", 2), ("b", "not", 1))):
            self.assertIsNotNone(narrowed_by(rooms, clause))

    def test_values_that_are_in_no_room(self):
        rooms = {"a": (1, 2), "b": (5,)}
        self.assertEqual(narrowed_by(rooms, (("a", "is", 0), ("a", "is", 3), ("b", "is", FAR))), rooms)
        self.assertIsNone(narrowed_by(rooms, (("a", "not", 0),)))

    def test_all_rooms_in_their_order(self):
        rooms = {"c": TEN, "a": (-3, 0, 8), "b": (1,)}
        narrowed = narrowed_by(rooms, (("a", "is", 0), ("c", "is", 4)))
        self.assertEqual(list(narrowed.items()), [("c", (0, 1, 2, 3, 5, 6, 7, 8, 9)), ("a", (-3, 8)), ("b", (1,))])

    def test_no_clause_and_no_rooms(self):
        rooms = {"b": (1, 2), "a": (3,)}
        narrowed = narrowed_by(rooms, ())
        self.assertEqual(list(narrowed.items()), list(rooms.items()))
        self.assertIsNot(narrowed, rooms)
        self.assertEqual(narrowed_by({}, ()), {})

    def test_what_is_changed_behind_a_call_changes_nothing(self):
        rooms = {"a": (1, 2), "b": (3, 4)}
        clause = (("a", "is", 1),)
        narrowed = narrowed_by(rooms, clause)
        narrowed["a"] = (7,)
        narrowed.pop("b")
        self.assertEqual(rooms, {"a": (1, 2), "b": (3, 4)})
        self.assertEqual(narrowed_by(rooms, clause), {"a": (2,), "b": (3, 4)})
        rooms["b"] = (5,)
        self.assertEqual(narrowed_by(rooms, clause), {"a": (2,), "b": (5,)})

    def test_just_the_fillings_in_which_it_does_not_hold(self):
        chance = random.Random(52)
        empties = 0
        for turn in range(2000):
            rooms = random_rooms(chance, "dbca", 4)
            clause = random_clause(chance, rooms, 5, OUTSIDE)
            before = copy.deepcopy(rooms)
            narrowed = narrowed_by(rooms, clause)
            self.assertEqual(list(rooms.items()), list(before.items()))
            against = [filling for filling in every_filling(rooms) if not holds_by_the_words(clause, filling)]
            if narrowed is None:
                empties += 1
                self.assertEqual(against, [])
            else:
                self.assertEqual(list(every_filling(narrowed)), against)
                self.assertTrue(all(isinstance(room, tuple) and room for room in narrowed.values()))
        self.assertTrue(200 < empties < 1800)


class FollowsTest(unittest.TestCase):
    def test_a_few(self):
        wish = ("unlike", ("a", "b"))
        rooms = {"a": (1, 2), "b": (1, 2), "c": (1, 2)}
        self.assertIs(follows_from(wish, (("a", "is", 1), ("b", "is", 1)), rooms), True)
        self.assertIs(follows_from(wish, (("a", "not", 1), ("b", "not", 1)), rooms), True)
        self.assertIs(follows_from(wish, (("a", "is", 1), ("b", "not", 1)), rooms), False)
        self.assertIs(follows_from(wish, (("a", "is", 1), ("b", "is", 1)), dict(rooms, b=(1, 2, 3))), False)
        self.assertIs(follows_from(wish, (), rooms), False)
        self.assertIs(follows_from(wish, (), dict(rooms, a=(1,), b=(1,))), True)

    def test_of_cells_that_the_wish_has_not(self):
        wish = ("table", ("a",), ((1,), (2,)))
        rooms = {"a": (1, 2, 3), "z": (5, 6)}
        self.assertIs(follows_from(wish, (("z", "is", 5), ("z", "is", 6)), rooms), True)
        self.assertIs(follows_from(wish, (("z", "is", 5), ("z", "not", 5)), rooms), True)
        self.assertIs(follows_from(wish, (("z", "is", 5),), rooms), False)
        self.assertIs(follows_from(wish, (("a", "not", 3), ("z", "is", 5)), rooms), True)
        self.assertIs(follows_from(wish, (("z", "not", 9),), rooms), True)
        self.assertIs(follows_from(wish, (("z", "is", 9),), rooms), False)

    def test_all_sorts_as_all_fillings_tell(self):
        chance = random.Random(53)
        told = {}
        for turn in range(9000):
            wish = random_wish(chance, "acbd")
            rooms = random_rooms(chance, "ebadc"[chance.randint(0, 1):], 3)
            clause = random_clause(chance, rooms, 6, OUTSIDE if turn % 3 == 0 else ())
            expected = follows_by_all(wish, clause, rooms)
            told.setdefault(wish[0], set()).add(expected)
            before = copy.deepcopy((wish, clause, rooms))
            self.assertIs(follows_from(wish, clause, rooms), expected, (wish, clause, rooms))
            self.assertEqual((wish, clause, rooms), before)
        self.assertEqual(told, dict.fromkeys(SORTS, {True, False}))

    def test_long_wishes(self):
        rooms = dict.fromkeys(NAMES, TEN)
        cells = NAMES[:12]
        wish = ("unlike", cells[:10])
        # Nine cells have nine values: the tenth must have the one that is left.
        clause = tuple(sorted([(name, "is", 0) for name in cells[:9]] + [(cells[9], "is", 0)]))
        self.assertIs(follows_from(wish, clause, rooms), True)
        for left_out in range(10):
            self.assertIs(follows_from(wish, clause[:left_out] + clause[left_out + 1:], rooms), False)
        wish = ("behind", cells[:10], 1)
        for place, name in enumerate(cells[:10]):
            self.assertIs(follows_from(wish, ((name, "is", place),), rooms), True)
            self.assertIs(follows_from(wish, ((name, "not", (place + 1) % 10),), rooms), True)
            self.assertIs(follows_from(wish, ((name, "not", place),), rooms), False)
        wish = ("many", (1, 2), cells, 12, 12)
        self.assertIs(follows_from(wish, (("l", "is", 1), ("l", "is", 2)), rooms), True)
        self.assertIs(follows_from(wish, (("l", "is", 1),), rooms), False)
        self.assertIs(follows_from(GREATEST["behind"], (), rooms), True)
