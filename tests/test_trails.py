import unittest

from seekhall.trails import Trail


def line_of(cell, value, *others):
    return 0, tuple(sorted(((cell, "not", value),) + others))


class TrailTest(unittest.TestCase):
    def setUp(self):
        self.first = {"b": (1, 2, 3), "a": (1, 2), "c": (4, 5, 6)}
        self.trail = Trail(self.first)

    def test_a_new_trail_has_the_first_rooms(self):
        self.assertEqual(list(self.trail.rooms_now().items()), list(self.first.items()))
        self.assertEqual(self.trail.level(), 0)

    def test_rooms_that_are_told_are_new_ones(self):
        self.trail.rooms_now()["a"] = ()
        self.first["b"] = (7,)
        self.assertEqual(self.trail.rooms_now(), {"b": (1, 2, 3), "a": (1, 2), "c": (4, 5, 6)})

    def test_what_is_taken_away_and_chosen(self):
        self.trail.take_away("c", 5, line_of("c", 5))
        self.trail.choose("b", 2)
        self.assertEqual(self.trail.rooms_now(), {"b": (2,), "a": (1, 2), "c": (4, 6)})
        self.assertEqual(self.trail.level(), 1)

    def test_the_way_back(self):
        told = [self.trail.rooms_now()]
        for cell, value, taken in (("b", 2, ("c", 5)), ("a", 1, ("c", 4))):
            self.trail.choose(cell, value)
            self.trail.take_away(taken[0], taken[1], line_of(taken[0], taken[1], (cell, "not", value)))
            told.append(self.trail.rooms_now())
        self.assertEqual(told[2], {"b": (2,), "a": (1,), "c": (6,)})
        for level in (2, 1, 0, 0):
            self.trail.go_back(level)
            self.assertEqual(self.trail.rooms_now(), told[level])
            self.assertEqual(self.trail.level(), level)

    def test_what_stands_ahead_of_all_choices_stays(self):
        self.trail.take_away("b", 3, line_of("b", 3))
        self.trail.choose("b", 1)
        self.trail.go_back(0)
        self.assertEqual(self.trail.rooms_now()["b"], (1, 2))

    def test_why_dead_names_what_led_to_it_alone(self):
        first_line, idle_line = line_of("c", 4, ("b", "is", 1)), line_of("c", 5)
        self.trail.take_away("c", 5, idle_line)
        self.trail.choose("a", 1)
        self.trail.choose("b", 3)
        self.trail.take_away("c", 4, first_line)
        dead = (1, (("c", "is", 4),))
        self.assertEqual(self.trail.why_dead(dead), ([first_line, dead], (("b", "not", 3),)))
        dead = (1, (("a", "is", 2), ("c", "not", 6)))
        self.assertEqual(self.trail.why_dead(dead), ([idle_line, first_line, dead], (("a", "not", 1), ("b", "not", 3))))
        self.assertEqual(self.trail.why_dead((None, ())), ([(None, ())], ()))

    def test_of_a_chosen_value_the_choice_alone_is_named(self):
        self.trail.choose("a", 1)
        self.trail.take_away("b", 1, line_of("b", 1, ("a", "is", 2)))
        self.trail.choose("b", 2)
        dead = (3, (("b", "not", 2),))
        self.assertEqual(self.trail.why_dead(dead), ([dead], (("b", "not", 2),)))

    def test_turned_back_to_where_all_but_the_last_choice_stand(self):
        self.trail.choose("a", 1)
        self.trail.choose("b", 3)
        self.trail.choose("c", 5)
        clause = (("a", "not", 1), ("c", "not", 5))
        self.trail.turn_back(clause)
        self.assertEqual((self.trail.level(), self.trail.rooms_now()), (1, {"b": (1, 2, 3), "a": (1,), "c": (4, 6)}))
        self.assertEqual(self.trail.why_dead((2, (("c", "is", 5),))), ([(None, clause), (2, (("c", "is", 5),))], (("a", "not", 1),)))
        self.trail.turn_back((("a", "not", 1),))
        self.assertEqual((self.trail.level(), self.trail.rooms_now()), (0, {"b": (1, 2, 3), "a": (2,), "c": (4, 5, 6)}))
