import copy
import random
import unittest

from helper import FAR, FORTY, TEN, by_units_by_the_words, every_filling, holds_by_the_words, random_clause, random_rooms
from seekhall.clauses import narrowed_by
from seekhall.units import Units, by_units


def clause_of(*literals):
    return tuple(sorted(literals))


class ByUnitsTest(unittest.TestCase):
    def assert_told(self, rooms, clauses, expected):
        for order in (clauses, clauses[::-1], clauses + clauses):
            for kind in (tuple, list):
                found = by_units(rooms, kind(order))
                self.assertEqual(found, expected)
                if expected is not None:
                    self.assertEqual(list(found), list(rooms))

    def test_nothing_to_go_by(self):
        rooms = {"b": (1, 2), "a": (3,)}
        self.assert_told(rooms, (), rooms)
        self.assertIsNot(by_units(rooms, ()), rooms)
        self.assert_told({}, (), {})

    def test_the_clause_of_no_literals(self):
        self.assert_told({"a": (1, 2)}, ((),), None)
        self.assert_told({}, ((),), None)
        self.assert_told({"a": (1, 2)}, ((("a", "is", 1),), ()), None)

    def test_one_literal(self):
        rooms = {"a": (1, 2, 3), "b": (4, 5)}
        self.assert_told(rooms, ((("a", "is", 2),),), {"a": (2,), "b": (4, 5)})
        self.assert_told(rooms, ((("a", "not", 2),),), {"a": (1, 3), "b": (4, 5)})
        self.assert_told(rooms, ((("a", "not", 7),),), rooms)
        self.assert_told(rooms, ((("a", "is", 7),),), None)
        self.assert_told({"a": (1,)}, ((("a", "not", 1),),), None)
        self.assert_told({"a": (1,)}, ((("a", "is", 1),),), {"a": (1,)})

    def test_all_but_one_untrue(self):
        rooms = {"a": (1,), "b": (1, 2, 3), "c": (2, 3)}
        clause = clause_of(("a", "not", 1), ("b", "is", 3), ("c", "is", 1))
        self.assert_told(rooms, (clause,), {"a": (1,), "b": (3,), "c": (2, 3)})
        self.assert_told(rooms, (clause, (("b", "not", 3),)), None)

    def test_two_that_are_not_untrue_narrow_nothing(self):
        rooms = {"a": (1, 2, 3), "b": (1, 2)}
        for clause in (clause_of(("a", "is", 1), ("a", "is", 2)), clause_of(("a", "not", 1), ("a", "not", 2)),
                       clause_of(("a", "is", 1), ("b", "is", 1)), clause_of(("b", "not", 1), ("b", "not", 2)),
                       clause_of(("a", "is", 1), ("a", "not", 2)), clause_of(("a", "is", 1), ("a", "not", 1)),
                       clause_of(("a", "not", 9), ("b", "is", 1))):
            self.assert_told(rooms, (clause,), rooms)

    def test_one_that_is_true_narrows_nothing(self):
        rooms = {"a": (1,), "b": (1, 2)}
        self.assert_told(rooms, (clause_of(("a", "is", 1), ("b", "is", 9)),), rooms)
        self.assert_told(rooms, (clause_of(("a", "not", 1), ("b", "not", 9)),), rooms)

    def test_literals_of_one_cell_that_become_untrue_at_once(self):
        rooms = {"a": (1, 2, 3), "b": (1, 2)}
        clause = clause_of(("a", "is", 1), ("a", "is", 2), ("b", "is", 1))
        self.assert_told(rooms, (clause, (("a", "is", 3),)), {"a": (3,), "b": (1,)})
        self.assert_told(rooms, (clause, (("a", "is", 3),), (("b", "is", 2),)), None)
        clause = clause_of(("a", "is", 1), ("a", "is", 2), ("a", "not", 3))
        self.assert_told(rooms, (clause, (("a", "is", 3),)), None)
        self.assert_told(rooms, (clause, (("a", "not", 3),)), {"a": (1, 2), "b": (1, 2)})

    def test_a_room_never_becomes_empty(self):
        rooms = {"a": TEN}
        away = tuple((("a", "not", value),) for value in TEN)
        self.assert_told(rooms, away[:9], {"a": (9,)})
        self.assert_told(rooms, away, None)

    def test_value_after_value_is_taken_away(self):
        names = FORTY[:4]
        rooms = dict.fromkeys(names, TEN)
        ladder = [(("caa", "not", 0),)]
        for value in TEN[:9]:
            for name, following in zip(names, names[1:]):
                ladder.append(clause_of((name, "is", value), (following, "not", value)))
            if value < 8:
                ladder.append(clause_of((names[-1], "is", value), ("caa", "not", value + 1)))
        self.assert_told(rooms, tuple(ladder), dict.fromkeys(names, (9,)))
        chance = random.Random(61)
        for turn in range(5):
            self.assertEqual(by_units(rooms, chance.sample(ladder, len(ladder))), dict.fromkeys(names, (9,)))
        self.assert_told(rooms, tuple(ladder + [clause_of((names[-1], "not", 9), (names[0], "is", 3))]), None)

    def test_a_long_row_told_from_the_last_to_the_first(self):
        rooms = dict.fromkeys(FORTY, TEN)
        row = [clause_of((name, "not", 3), (following, "is", 3)) for name, following in zip(FORTY, FORTY[1:])]
        self.assert_told(rooms, tuple(row[::-1]), rooms)
        self.assert_told(rooms, tuple(row[::-1] + [((FORTY[0], "is", 3),)]), dict.fromkeys(FORTY, (3,)))
        dead = clause_of((FORTY[0], "not", 3), (FORTY[39], "not", 3))
        self.assert_told(rooms, tuple([dead] + row[::-1] + [((FORTY[0], "is", 3),)]), None)

    def test_forty_literals_all_but_one_untrue_in_the_end(self):
        rooms = dict.fromkeys(FORTY, TEN)
        whole = tuple((name, "is", 5) for name in FORTY)
        away = [((name, "not", 5),) for name in FORTY]
        for kept in (0, 17, 39):
            expected = dict.fromkeys(FORTY, (0, 1, 2, 3, 4, 6, 7, 8, 9))
            expected[FORTY[kept]] = (5,)
            self.assert_told(rooms, tuple([whole] + away[:kept] + away[kept + 1:]), expected)
        self.assert_told(rooms, tuple([whole] + away), None)

    def test_four_hundred_clauses_of_forty_literals(self):
        chance = random.Random(62)
        told = set()
        for turn in range(12):
            rooms = {name: TEN[:chance.choice((2, 3, 10))] for name in FORTY}
            settled = {name: chance.choice(room) for name, room in rooms.items()}
            clauses = []
            for number in range(400):
                untrue = [(name, "is", (settled[name] + 1) % len(rooms[name])) for name in chance.sample(FORTY, 39)]
                name = chance.choice(FORTY)
                clauses.append(clause_of(*(set(untrue) | {(name, "is", settled[name])})))
            clauses += [((name, "is", settled[name]),) for name in chance.sample(FORTY, chance.choice((37, 39, 40)))]
            chance.shuffle(clauses)
            expected = by_units_by_the_words(rooms, clauses)
            told.add(len([room for room in expected.values() if len(room) > 1]))
            self.assertEqual(by_units(rooms, clauses), expected)
            clauses.append(clause_of(*[(name, "not", settled[name]) for name in FORTY]))
            self.assertEqual(by_units(rooms, clauses), by_units_by_the_words(rooms, clauses))
        self.assertGreater(len(told), 1)

    def test_as_going_round_clause_by_clause_tells(self):
        chance = random.Random(63)
        told = {"dead": 0, "same": 0, "narrowed": 0}
        for turn in range(4000):
            rooms = random_rooms(chance, "dacbe", chance.choice((2, 3, 5)))
            clauses = [random_clause(chance, rooms, chance.choice((2, 3, 4)), (9,)) for time in range(chance.randint(0, 12))]
            if turn % 2:
                clauses = [clause for clause in clauses if clause]
            expected = by_units_by_the_words(rooms, clauses)
            told["dead" if expected is None else "same" if expected == rooms else "narrowed"] += 1
            for order in (clauses, clauses[::-1], chance.sample(clauses, len(clauses))):
                before = copy.deepcopy((rooms, order))
                found = by_units(rooms, order)
                self.assertEqual(found, expected)
                self.assertEqual((rooms, order), before)
                if found is not None:
                    self.assertEqual(list(found), list(rooms))
                    self.assertTrue(all(isinstance(room, tuple) and room for room in found.values()))
        self.assertGreater(min(told.values()), 300)

    def test_no_filling_in_which_all_hold_is_lost(self):
        chance = random.Random(64)
        for turn in range(500):
            rooms = random_rooms(chance, "abcd", 4)
            clauses = [random_clause(chance, rooms, 4) for time in range(6)]
            found = by_units(rooms, clauses)
            for filling in every_filling(rooms):
                if all(holds_by_the_words(clause, filling) for clause in clauses):
                    self.assertTrue(all(filling[name] in found[name] for name in rooms))

    def test_what_is_changed_behind_a_call_changes_nothing(self):
        rooms = {"a": (1, 2), "b": (1, 2)}
        clauses = [(("a", "is", 1),), (("a", "not", 1), ("b", "is", 2))]
        found = by_units(rooms, clauses)
        self.assertEqual(found, {"a": (1,), "b": (2,)})
        found["a"] = (5,)
        found.pop("b")
        self.assertEqual(rooms, {"a": (1, 2), "b": (1, 2)})
        self.assertEqual(by_units(rooms, clauses), {"a": (1,), "b": (2,)})
        clauses.pop()
        self.assertEqual(by_units(rooms, clauses), {"a": (1,), "b": (1, 2)})


class UnitsTest(unittest.TestCase):
    def test_asked_between_clauses_that_are_added(self):
        """What is tried out stays without trace: asked again and again, between clauses that are added."""
        chance = random.Random(65)
        told = set()
        for turn in range(800):
            rooms = random_rooms(chance, "abcde", 4)
            units = Units(rooms)
            added = []
            for time in range(10):
                for trial in [random_clause(chance, rooms, 4, (9, -FAR)) for number in range(3)]:
                    narrowed = narrowed_by(rooms, trial)
                    expected = narrowed is None or by_units_by_the_words(narrowed, added) is None
                    told.add(expected)
                    self.assertIs(units.would_die_of(trial), expected, (rooms, added, trial))
                added.append(random_clause(chance, rooms, 4) or (("a", "is", rooms["a"][0]),))
                units.go_by(added[-1])
                self.assertEqual(None if units.dead else units.rooms, by_units_by_the_words(rooms, added))
        self.assertEqual(told, {True, False})
