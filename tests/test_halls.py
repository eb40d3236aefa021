import copy
import itertools
import random
import unittest

from helper import FAR, GREATEST, NAMES, ORDINARY, every_filling, kept_by_the_words, raised, random_wish
from seekhall.errors import NoHall
from seekhall.halls import all_kept, check_hall, first_rooms

ROOM = (-1, 0, 2)
CELLS = (("a", ROOM), ("b", (1, 2, 3)), ("c", (0, 1, 2)))
WISHES = tuple(ORDINARY.values())

BAD_ROOMS = ((), tuple(range(11)), (2, 1), (1, 3, 2), (1, 1), (1, 2, 2), (FAR + 1,), (-FAR - 1, 0), (0, FAR + 1), (True,),
             (0, True), (False, 1), (None,), ("1",), ((1,),), None, 1, "12", "", True)
BAD_NAMES = ("", "in", "from", "to", "end", "A", "a1", "abcdefghi", None, 1, True, ("a",), ())
BAD_CELLS = ((), ("x",), ("x", (1,), (2,)), ("x", 1, 2), None, True, 7, "x", "xy", (("x", (1,)),), ((1,), "x"))
BAD_WISHES = (None, True, 0, "unlike", (), ("unlike",), ("unlike", ()), ("unlike", ("a", "a")), ("alike", ("a", "b")),
              ("many", (1, 1), ("a",), 0, 1), ("sum", ((0, "a"),), 0, 1), ("table", ("a",), ((FAR + 1,),)),
              ("way", ("a",), ((0, 1, 21),), ()), ("behind", ("a", "b"), 10 ** 9 + 1), ("same", "a", (1,), ("unlike", ("a",))),
              ("same", "a", (1,), ("same", "b", (1,), ("unlike", ("c",)))))
STRANGE_WISHES = (("unlike", ("x",)), ("unlike", ("a", "b", "x")), ("many", (1,), ("a", "x"), 0, 1),
                  ("sum", ((1, "a"), (1, "x")), 0, 1), ("table", ("x",), ()), ("way", ("a", "x"), (), ()),
                  ("behind", ("x", "a"), 0), ("same", "x", (1,), ("unlike", ("a",))), ("same", "a", (1,), ("unlike", ("x",))))


class CheckTest(unittest.TestCase):
    def assert_refused(self, hall, word, at):
        refusal = raised(NoHall, check_hall, hall)
        self.assertIsNotNone(refusal, hall)
        self.assertEqual((refusal.word, refusal.at), (word, at), hall)

    def test_sound_halls(self):
        for hall in (((), ()), (CELLS, ()), (CELLS, WISHES), (CELLS, WISHES + WISHES)):
            self.assertIsNone(check_hall(hall))

    def test_greatest_hall(self):
        names = [first + second for first, second in itertools.product("abcdefgh", "abcde")]
        cells = tuple((name, tuple(range(-FAR, -FAR + 9)) + (FAR,)) for name in names)
        wishes = (("unlike", tuple(names[:12])),) * 39 + (("behind", tuple(names[-12:]), 1),)
        self.assertEqual((len(cells), len(wishes)), (40, 40))
        self.assertIsNone(check_hall((cells, wishes)))

    def test_greatest_wishes(self):
        cells = tuple((name, (0,)) for name in NAMES)
        self.assertIsNone(check_hall((cells, tuple(GREATEST.values()))))

    def test_bad_rooms(self):
        for room in BAD_ROOMS:
            self.assert_refused(((("x", room),), ()), "cell", 0)
            self.assert_refused((CELLS + (("x", room),), WISHES), "cell", 3)

    def test_bad_names(self):
        for name in BAD_NAMES:
            self.assert_refused(((("x", (1,)), (name, (1,)), ("y", (1,))), ()), "cell", 1)

    def test_bad_cells(self):
        for cell in BAD_CELLS:
            self.assert_refused((CELLS + (cell,), ()), "cell", 3)

    def test_a_name_once_more(self):
        self.assert_refused((CELLS + (("d", (1,)), ("b", (7, 8))), ()), "cell", 4)
        self.assert_refused((CELLS + CELLS, ()), "cell", 3)

    def test_bad_wishes(self):
        for wish in BAD_WISHES + STRANGE_WISHES:
            self.assert_refused((CELLS, (wish,)), "wish", 0)
            self.assert_refused((CELLS, WISHES + (wish,)), "wish", 7)

    def test_no_cells_but_a_wish(self):
        for wish in WISHES:
            self.assert_refused(((), (wish,)), "wish", 0)

    def test_the_first_wrong_one_is_told(self):
        cells = CELLS + (("d", ()), ("a", (1,)), None)
        self.assert_refused((cells, ()), "cell", 3)
        self.assert_refused((cells[:3] + cells[4:], ()), "cell", 3)
        self.assert_refused((CELLS, WISHES[:2] + (STRANGE_WISHES[0], BAD_WISHES[0])), "wish", 2)
        self.assert_refused((CELLS, WISHES[:1] + (BAD_WISHES[0], STRANGE_WISHES[0])), "wish", 1)

    def test_cells_go_ahead_of_wishes(self):
        self.assert_refused((CELLS + (("a", (1,)),), (None,)), "cell", 3)
        self.assert_refused(((("a", (1,)), ("b", ())), (("unlike", ("x",)),)), "cell", 1)

    def test_what_is_handed_in_stays(self):
        hall = (CELLS, WISHES)
        before = copy.deepcopy(hall)
        check_hall(hall)
        self.assertEqual(hall, before)


class RoomsTest(unittest.TestCase):
    def test_rooms(self):
        self.assertEqual(first_rooms((CELLS, WISHES)), {"a": ROOM, "b": (1, 2, 3), "c": (0, 1, 2)})
        self.assertEqual(first_rooms(((), ())), {})
        self.assertEqual(list(first_rooms((CELLS, ()))), ["a", "b", "c"])
        self.assertIsInstance(first_rooms((CELLS, ()))["a"], tuple)

    def test_rooms_are_new_each_time(self):
        hall = (CELLS, WISHES)
        told = first_rooms(hall)
        told["a"] = (5,)
        told["z"] = (6,)
        self.assertEqual(first_rooms(hall), {"a": ROOM, "b": (1, 2, 3), "c": (0, 1, 2)})
        self.assertEqual(hall, (CELLS, WISHES))


class KeptTest(unittest.TestCase):
    def assert_kept(self, wish, kept, broken):
        cells = tuple((name, (-2, -1, 0, 1, 2, 3)) for name in "abcd")
        for expected, fillings in ((True, kept), (False, broken)):
            for values in fillings:
                filling = dict(zip("abcd", values + (0,) * (4 - len(values))))
                self.assertIs(all_kept((cells, (wish,)), filling), expected, (wish, filling))

    def test_unlike(self):
        self.assert_kept(("unlike", ("a", "c", "b")), [(1, 2, 3), (0, -1, 2)], [(1, 2, 1), (1, 1, 2), (2, 1, 1), (1, 1, 1)])
        self.assert_kept(("unlike", ("a",)), [(1,), (0,)], [])

    def test_many(self):
        self.assert_kept(("many", (1, 3), ("a", "b", "c"), 1, 2), [(1, 0, 0), (3, 1, 2), (0, 1, 1)], [(0, 2, 2), (1, 1, 3)])
        self.assert_kept(("many", (), ("a", "b"), 0, 5), [(1, 2)], [])
        self.assert_kept(("many", (), ("a", "b"), 1, 5), [], [(1, 2)])
        self.assert_kept(("many", (0,), ("a", "b"), 2, 1), [], [(0, 0), (0, 1), (1, 1)])

    def test_sum(self):
        self.assert_kept(("sum", ((2, "a"), (-1, "b")), 0, 3), [(1, 2), (2, 1)], [(0, 1), (3, 2)])
        self.assert_kept(("sum", ((2, "a"), (-1, "b")), None, 0), [(-2, 3), (1, 2)], [(1, 1)])
        self.assert_kept(("sum", ((2, "a"), (-1, "b")), 1, None), [(3, 0), (1, 1)], [(1, 2)])
        self.assert_kept(("sum", ((1, "a"),), None, None), [(-2,), (3,)], [])
        self.assert_kept(("sum", ((1, "a"),), 2, 1), [], [(1,), (2,), (0,), (3,)])

    def test_table(self):
        self.assert_kept(("table", ("b", "a"), ((1, 2), (3, 3))), [(2, 1), (3, 3)], [(1, 2), (3, 1), (2, 3)])
        self.assert_kept(("table", ("a",), ()), [], [(0,), (1,)])

    def test_way(self):
        wish = ("way", ("a", "b"), ((0, 1, 1), (0, 2, 2), (1, 2, 2)), (2,))
        self.assert_kept(wish, [(1, 2)], [(1, 1), (2, 1), (2, 2), (0, 0), (3, 2)])
        self.assert_kept(("way", ("a",), ((0, 1, 0), (0, 2, 1)), (0,)), [(1,)], [(2,), (0,)])
        self.assert_kept(("way", ("a",), ((0, 1, 0), (1, 2, 0)), ()), [], [(1,), (2,)])
        self.assert_kept(("way", ("a",), ((1, 1, 0),), (0, 1)), [], [(1,)])
        self.assert_kept(("way", ("a",), (), (0,)), [], [(1,)])

    def test_behind(self):
        self.assert_kept(("behind", ("b", "a", "c"), 1), [(1, 0, 2), (2, -1, 3)], [(1, 1, 2), (1, 0, 1), (0, 1, 2)])
        self.assert_kept(("behind", ("a", "b"), -1), [(2, 1), (1, 3), (0, 0)], [(2, 0)])
        self.assert_kept(("behind", ("a",), 10 ** 9), [(0,), (3,)], [])

    def test_same(self):
        wish = ("same", "c", (0, 1), ("unlike", ("a", "b")))
        self.assert_kept(wish, [(1, 2, 0), (1, 2, 1), (1, 1, 2)], [(1, 1, 0), (1, 1, 1), (1, 2, 3)])
        self.assert_kept(("same", "c", (), ("unlike", ("a", "b"))), [(1, 1, 0)], [(1, 2, 0)])

    def test_same_of_each_sort(self):
        for sort, wish in ORDINARY.items():
            if sort != "same":
                for filling in every_filling({"a": (1, 2), "b": (1, 2, 3), "c": (0, 2), "d": (0, 1)}):
                    cells = tuple((name, (0, 1, 2, 3)) for name in "abcd")
                    expected = (filling["d"] == 1) == kept_by_the_words(wish, filling)
                    self.assertIs(all_kept((cells, (("same", "d", (1,), wish),)), filling), expected)

    def test_each_sort_against_the_words_of_the_document(self):
        chance = random.Random(4)
        cells = tuple((name, (-2, -1, 0, 1, 2, 3)) for name in "abcd")
        told = {}
        for turn in range(4000):
            wish = random_wish(chance, "abcd")
            filling = {name: chance.randint(-2, 3) for name in "abcd"}
            expected = kept_by_the_words(wish, filling)
            told.setdefault(wish[0], []).append(expected)
            self.assertIs(all_kept((cells, (wish,)), filling), expected, (wish, filling))
        self.assertEqual(sorted(told), sorted(ORDINARY))
        for answers in told.values():
            self.assertEqual(set(answers), {True, False})

    def test_a_value_of_no_room(self):
        cells = (("a", (1, 2, 4)), ("b", (3,)))
        self.assertIs(all_kept((cells, ()), {"a": 4, "b": 3}), True)
        for filling in ({"a": 3, "b": 3}, {"a": 0, "b": 3}, {"a": 5, "b": 3}, {"a": 1, "b": 1}, {"a": 10 ** 9, "b": 3}):
            self.assertIs(all_kept((cells, ()), filling), False)
            self.assertIs(all_kept((cells, (("many", (), ("a",), 0, 0),)), filling), False)

    def test_every_wish_is_asked(self):
        cells = tuple((name, (1, 2)) for name in "ab")
        unlike = ("unlike", ("a", "b"))
        behind = ("behind", ("a", "b"), 0)
        self.assertIs(all_kept((cells, (unlike, behind)), {"a": 1, "b": 2}), True)
        self.assertIs(all_kept((cells, (unlike, behind)), {"a": 2, "b": 1}), False)
        self.assertIs(all_kept((cells, (behind, unlike)), {"a": 2, "b": 1}), False)
        self.assertIs(all_kept((cells, (behind, unlike)), {"a": 2, "b": 2}), False)

    def test_hall_of_nothing(self):
        self.assertIs(all_kept(((), ()), {}), True)

    def test_greatest_values(self):
        cells = tuple((name, (-FAR, FAR)) for name in "abcdef")
        wish = ("sum", tuple((FAR, name) for name in "abcdef"), 6 * FAR * FAR, 10 ** 13)
        self.assertIs(all_kept((cells, (wish,)), dict.fromkeys("abcdef", FAR)), True)
        self.assertIs(all_kept((cells, (wish,)), dict(dict.fromkeys("abcdef", FAR), c=-FAR)), False)

    def test_what_is_handed_in_stays(self):
        hall = (CELLS, WISHES)
        filling = {"a": 2, "b": 1, "c": 0}
        before = copy.deepcopy((hall, filling))
        first = all_kept(hall, filling)
        self.assertEqual((hall, filling), before)
        self.assertIs(all_kept(hall, filling), first)
