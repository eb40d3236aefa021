import itertools
import random
import unittest

from helper import every_filling, kept_by_the_words, random_rooms, random_wish
from seekhall.halls import all_kept
from seekhall.lookers import dead_clause, looked_at
from seekhall.nones import check_none
from seekhall.trails import Trail


def line_of(cell, value, *others):
    return 0, tuple(sorted(((cell, "not", value),) + others))


def loose_wish(chance, names):
    """A wish of two or three cells that takes little away by itself, so that much is left to choices."""
    one, other, third = names
    return chance.choice([
        ("table", (one, other), tuple(chance.sample(list(itertools.product((0, 1, 2), repeat=2)), 6))),
        ("unlike", (one, other)),
        ("same", third, (chance.randint(0, 2),), ("unlike", (one, other))),
        ("sum", ((1, one), (1, other), (1, third)), 2, 4),
        ("many", (0, 1), tuple(names), 1, 2),
    ])


class TrailTest(unittest.TestCase):
    def setUp(self):
        self.first = {"b": (1, 2, 3), "a": (1, 2), "c": (4, 5, 6)}
        self.trail = Trail(self.first)

    def test_a_new_trail_has_the_first_rooms(self):
        self.assertEqual(list(self.trail.rooms_now().items()), list(self.first.items()))
        self.assertEqual(self.trail.level(), 0)

    def test_rooms_that_are_told_are_new_ones(self):
        self.trail.rooms_now()["a"] = ()
        self.first["b"] = (7,)
        self.assertEqual(self.trail.rooms_now(), {"b": (1, 2, 3), "a": (1, 2), "c": (4, 5, 6)})

    def test_what_is_taken_away_and_chosen(self):
        self.trail.take_away("c", 5, line_of("c", 5))
        self.trail.choose("b", 2)
        self.assertEqual(self.trail.rooms_now(), {"b": (2,), "a": (1, 2), "c": (4, 6)})
        self.assertEqual(self.trail.level(), 1)

    def test_the_way_back(self):
        told = [self.trail.rooms_now()]
        for cell, value, taken in (("b", 2, ("c", 5)), ("a", 1, ("c", 4))):
            self.trail.choose(cell, value)
            self.trail.take_away(taken[0], taken[1], line_of(taken[0], taken[1], (cell, "not", value)))
            told.append(self.trail.rooms_now())
        self.assertEqual(told[2], {"b": (2,), "a": (1,), "c": (6,)})
        for level in (2, 1, 0, 0):
            self.trail.go_back(level)
            self.assertEqual(self.trail.rooms_now(), told[level])
            self.assertEqual(self.trail.level(), level)

    def test_what_stands_ahead_of_all_choices_stays(self):
        self.trail.take_away("b", 3, line_of("b", 3))
        self.trail.choose("b", 1)
        self.trail.go_back(0)
        self.assertEqual(self.trail.rooms_now()["b"], (1, 2))

    def test_why_dead_names_what_led_to_it_alone(self):
        first_line, idle_line = line_of("c", 4, ("b", "is", 1)), line_of("c", 5)
        self.trail.take_away("c", 5, idle_line)
        self.trail.choose("a", 1)
        self.trail.choose("b", 3)
        self.trail.take_away("c", 4, first_line)
        dead = (1, (("c", "is", 4),))
        self.assertEqual(self.trail.why_dead(dead), ([first_line, dead], (("b", "not", 3),)))
        dead = (1, (("a", "is", 2), ("c", "not", 6)))
        self.assertEqual(self.trail.why_dead(dead), ([idle_line, first_line, dead], (("a", "not", 1), ("b", "not", 3))))
        self.assertEqual(self.trail.why_dead((None, ())), ([(None, ())], ()))

    def test_of_a_chosen_value_the_choice_alone_is_named(self):
        self.trail.choose("a", 1)
        self.trail.take_away("b", 1, line_of("b", 1, ("a", "is", 2)))
        self.trail.choose("b", 2)
        dead = (3, (("b", "not", 2),))
        self.assertEqual(self.trail.why_dead(dead), ([dead], (("b", "not", 2),)))

    def test_turned_back_to_where_all_but_the_last_choice_stand(self):
        self.trail.choose("a", 1)
        self.trail.choose("b", 3)
        self.trail.choose("c", 5)
        clause = (("a", "not", 1), ("c", "not", 5))
        self.trail.turn_back(clause)
        self.assertEqual((self.trail.level(), self.trail.rooms_now()), (1, {"b": (1, 2, 3), "a": (1,), "c": (4, 6)}))
        self.assertEqual(self.trail.why_dead((2, (("c", "is", 5),))), ([(None, clause), (2, (("c", "is", 5),))], (("a", "not", 1),)))
        self.trail.turn_back((("a", "not", 1),))
        self.assertEqual((self.trail.level(), self.trail.rooms_now()), (0, {"b": (1, 2, 3), "a": (2,), "c": (4, 5, 6)}))


class Search:
    """The plainest search that stands on a trail: it shows that what the trail tells makes a paper."""

    def __init__(self, hall):
        self.hall = hall
        self.first = dict(hall[0])
        self.trail = Trail(self.first)
        self.paper = []

    def look(self):
        """Takes away what the wishes take away; gives a dead line, or None where nothing is taken any more."""
        changed = True
        while changed:
            changed = False
            for number, wish in enumerate(self.hall[1]):
                clause = dead_clause(wish, self.first, self.trail.rooms_now())
                if clause is not None:
                    return number, clause
                for cell, value, clause in looked_at(wish, self.first, self.trail.rooms_now()):
                    self.trail.take_away(cell, value, (number, clause))
                    changed = True
        return None

    def told(self):
        while True:
            dead = self.look()
            if dead is not None:
                lines, clause = self.trail.why_dead(dead)
                self.paper += [line for line in lines if line not in self.paper] + [(None, clause)]
                if clause == ():
                    return "none", tuple(self.paper)
                self.trail.turn_back(clause)
            else:
                several = [(cell, room) for cell, room in self.trail.rooms_now().items() if len(room) > 1]
                if not several:
                    return "fits", {cell: room[0] for cell, room in self.trail.rooms_now().items()}
                self.trail.choose(several[0][0], several[0][1][-1])


class SearchTest(unittest.TestCase):
    def test_halls_by_chance(self):
        chance = random.Random(111)
        told = {"fits": 0, "none": 0}
        longest = 0
        for turn in range(500):
            cells = tuple(random_rooms(chance, "abcde", 4).items())
            wishes = tuple(random_wish(chance, "abcde") for time in range(chance.randint(1, 5)))
            if turn % 2:
                cells = tuple((name, (0, 1, 2)) for name in "abcdef")
                wishes = tuple(loose_wish(chance, chance.sample("abcdef", 3)) for time in range(chance.randint(10, 20)))
            hall = cells, wishes
            word, thing = Search(hall).told()
            told[word] += 1
            some = any(all(kept_by_the_words(wish, filling) for wish in hall[1]) for filling in every_filling(dict(cells)))
            self.assertEqual(word, "fits" if some else "none")
            if some:
                self.assertTrue(all_kept(hall, thing))
            else:
                self.assertIs(check_none(hall, thing), True)
                longest = max(longest, len(thing))
        self.assertGreater(min(told.values()), 100)
        self.assertGreater(longest, 10)

    def test_a_hall_that_needs_many_choices(self):
        names = "abcde"
        pairs = [(x, y) for x in names for y in names if x < y]
        for room, word in (((1, 2, 3, 4), "none"), ((1, 2, 3, 4, 5), "fits")):
            hall = tuple((name, room) for name in names), tuple(("unlike", pair) for pair in pairs)
            found, thing = Search(hall).told()
            self.assertEqual(found, word)
            if word == "none":
                self.assertIs(check_none(hall, thing), True)
                self.assertGreater(len([line for line in thing if line[0] is None]), 10)
            else:
                self.assertTrue(all_kept(hall, thing))
