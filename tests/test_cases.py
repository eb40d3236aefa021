import copy
import random
import unittest

from helper import FAR, FORTY, NAMES, TEN, pairs_hall, random_rooms, random_wish, ring_hall, small_halls, told_by_all, wide_hall
from seekhall.cases import asunder, case_of, hall_of, is_case, is_idle
from seekhall.forms import cells_of
from seekhall.halls import check_hall

HALL = ((("c", (1, 2, 3)), ("a", (-FAR, 0, FAR)), ("b", (5,)), ("d", (1, 2))),
        (("unlike", ("a", "c")), ("same", "d", (1,), ("behind", ("c", "b"), 1)), ("table", ("d",), ((1,),)), ("unlike", ("a", "c"))))


class IsCaseTest(unittest.TestCase):
    def assert_told(self, case, expected, hall=HALL):
        self.assertIs(is_case(hall, case), expected, case)

    def test_the_hall_s_own(self):
        for hall in (HALL, ((), ()), pairs_hall("abcd", TEN), wide_hall(random.Random(1), 0)[0]):
            self.assert_told(case_of(hall), True, hall)
            self.assertEqual(case_of(hall), (dict(hall[0]), tuple(range(len(hall[1])))))

    def test_some_cells_parts_of_rooms_and_some_wishes(self):
        for case in (({}, ()), ({"a": (0,)}, ()), ({"d": (2,)}, (2,)), ({"d": (1, 2)}, ()), ({"c": (1, 3), "a": (-FAR, FAR)}, (0, 3)),
                     ({"a": (-FAR, FAR), "c": (3,)}, (3,)), ({"b": (5,), "c": (2,), "d": (1,)}, (1, 2)), ({"b": (5,), "c": (2,), "d": (1,)}, ())):
            self.assert_told(case, True)

    def test_cells_and_rooms_that_are_none(self):
        for name in ("e", "A", "", 1, None, ("c",)):
            self.assert_told(({name: (1,)}, ()), False)
            self.assert_told(({"c": (1,), name: (1,)}, ()), False)
        for room in ((), (4,), (1, 4), (2, 1), (1, 1), (1, 2, 2), (1, 3, 2), (0, 1), (True,), (1, "2"), (None,), None, [1, 2], 1, "1"):
            self.assert_told(({"c": room}, ()), False)
            self.assert_told(({"d": (1,), "c": room}, (2,)), False)

    def test_numbers_that_are_none(self):
        rooms = dict(HALL[0])
        for numbers in ((4,), (-1,), (0, 4), (1, 0), (0, 0), (0, 2, 1), (0, 1, 1, 2), (10 ** 9,), (True,), (0, True), (None,), ("0",), ((0,),)):
            self.assert_told((rooms, numbers), False)
        for numbers in ((), (0,), (3,), (0, 3), (1, 2), (0, 1, 2, 3)):
            self.assert_told((rooms, numbers), True)
        self.assert_told(({}, (0,)), False, ((), ()))

    def test_a_wish_of_which_a_cell_lacks(self):
        for name, numbers in (("a", (0, 3)), ("c", (0, 1, 3)), ("b", (1,)), ("d", (1, 2))):
            rooms = {other: room for other, room in HALL[0] if other != name}
            for number in range(4):
                self.assert_told((rooms, (number,)), number not in numbers)

    def test_rooms_somewhat_beyond_the_bounds(self):
        hall = ((("a", (FAR, FAR + 1)),), ())
        self.assert_told(({"a": (FAR + 1,)}, ()), True, hall)
        self.assert_told(({"a": (FAR + 2,)}, ()), False, hall)


class HallOfTest(unittest.TestCase):
    def test_in_the_hall_s_order(self):
        self.assertEqual(hall_of(HALL, ({"d": (2,), "b": (5,), "c": (1, 3)}, (1, 2))),
                         ((("c", (1, 3)), ("b", (5,)), ("d", (2,))), (HALL[1][1], HALL[1][2])))
        self.assertEqual(hall_of(HALL, ({"a": (0,), "c": (1,)}, (0, 3))), ((("c", (1,)), ("a", (0,))), (HALL[1][0], HALL[1][3])))
        self.assertEqual(hall_of(HALL, ({}, ())), ((), ()))

    def test_the_hall_s_own_case(self):
        for hall in (HALL, ((), ()), wide_hall(random.Random(2), 0)[0]):
            self.assertEqual(hall_of(hall, case_of(hall)), hall)
            self.assertIsNone(check_hall(hall_of(hall, case_of(hall))))

    def test_what_is_told_is_new_and_what_is_handed_in_stays(self):
        case = case_of(HALL)
        case[0].clear()
        self.assertEqual(case_of(HALL)[0], dict(HALL[0]))
        case = {"c": (1, 2), "a": (0,)}, (0,)
        before = copy.deepcopy(case)
        for turn in range(2):
            hall_of(HALL, case)
            is_case(HALL, case)
            asunder(HALL, case)
            self.assertEqual(case, before)


class IdleTest(unittest.TestCase):
    def test_just_where_all_fillings_keep_it(self):
        chance = random.Random(1101)
        told = {True: 0, False: 0}
        for turn in range(600):
            wish, rooms = random_wish(chance, "abcd"), random_rooms(chance, "abcd", 2)
            expected = not told_by_all(wish, rooms)[1]
            self.assertIs(is_idle(wish, rooms), expected)
            told[expected] += 1
        self.assertGreater(min(told.values()), 80)

    def test_edges(self):
        rooms = {"a": (1, 2), "b": (3,)}
        for wish, expected in ((("unlike", ("a", "b")), True), (("unlike", ("a",)), True), (("behind", ("a", "b"), 1), True),
                               (("behind", ("a", "b"), 2), False), (("many", (3,), ("a", "b"), 1, 1), True), (("table", ("b",), ((3,),)), True),
                               (("table", ("b",), ()), False), (("sum", ((1, "a"),), None, None), True), (("sum", ((1, "a"),), 2, None), False)):
            self.assertIs(is_idle(wish, rooms), expected)


def asunder_by_the_words(hall, case):
    """Point 24 once more, from each cell on to those that it hangs together with."""
    rooms = case[0]
    names = [name for name, room in hall[0] if len(rooms.get(name, ())) > 1]
    busy = [set(cells_of(hall[1][number])) for number in case[1] if told_by_all(hall[1][number], rooms)[1]]
    groups = []
    while names:
        group = {names[0]}
        for time in range(40):
            group |= {name for cells in busy if cells & group for name in cells if len(rooms[name]) > 1}
        groups.append([name for name in names if name in group])
        names = [name for name in names if name not in group]
    return groups


class AsunderTest(unittest.TestCase):
    def assert_told(self, hall, case, expected):
        told = asunder(hall, case)
        self.assertIsInstance(told, list)
        self.assertTrue(all(isinstance(group, list) for group in told))
        self.assertEqual(told, expected, (hall, case))

    def test_ordinary(self):
        cells = tuple((name, (1, 2)) for name in "cabd") + (("e", (7,)), ("f", (1, 2)))
        wishes = (("unlike", ("d", "a")), ("same", "f", (1,), ("table", ("e",), ((7,),))), ("behind", ("c", "e"), 0))
        hall = cells, wishes
        self.assert_told(hall, case_of(hall), [["c"], ["a", "d"], ["b"], ["f"]])
        self.assert_told(hall, (dict(cells), (1, 2)), [["c"], ["a"], ["b"], ["d"], ["f"]])
        self.assert_told(hall, (dict(cells, d=(1,)), (0, 1, 2)), [["c"], ["a"], ["b"], ["f"]])
        self.assert_told(hall, ({"d": (1, 2), "a": (1, 2), "e": (7,)}, (0,)), [["a", "d"]])

    def test_a_same_s_own_cell_is_tied_too(self):
        hall = tuple((name, (1, 2)) for name in "abc"), (("same", "c", (1,), ("unlike", ("a", "b"))),)
        self.assert_told(hall, case_of(hall), [["a", "b", "c"]])
        self.assert_told(hall, (dict(hall[0], b=(1,)), (0,)), [["a", "c"]])

    def test_wishes_that_are_idle_tie_nothing(self):
        hall = ((("a", (1, 2)), ("b", (3, 4)), ("c", (1, 4))), (("unlike", ("a", "b")), ("behind", ("a", "b"), 1), ("unlike", ("b", "c"))))
        self.assert_told(hall, case_of(hall), [["a"], ["b", "c"]])
        self.assert_told(hall, (dict(hall[0], c=(1,)), (0, 1, 2)), [["a"], ["b"]])

    def test_no_cells_and_cells_of_one_value(self):
        self.assert_told(((), ()), ({}, ()), [])
        hall = ((("a", (1,)), ("b", (1,))), (("unlike", ("a", "b")),))
        self.assert_told(hall, case_of(hall), [])

    def test_groups_that_come_together_late(self):
        names = "abcdefgh"
        wishes = tuple(("unlike", pair) for pair in ("hg", "ab", "cd", "ef", "bh", "dg", "fc"))
        hall = tuple((name, (1, 2)) for name in names), tuple((sort, tuple(cells)) for sort, cells in wishes)
        self.assert_told(hall, case_of(hall), [list(names)])
        self.assert_told(hall, (dict(hall[0]), (0, 1, 2, 3)), [["a", "b"], ["c", "d"], ["e", "f"], ["g", "h"]])
        self.assert_told(hall, (dict(hall[0]), (0, 1, 3, 4, 6)), [["a", "b", "g", "h"], ["c", "e", "f"], ["d"]])

    def test_small_halls_and_cases_of_them(self):
        chance = random.Random(1102)
        sizes = set()
        for hall, fillings in small_halls(1103, 200):
            rooms = {name: tuple(sorted(chance.sample(room, chance.randint(1, len(room))))) for name, room in hall[0]}
            case = rooms, tuple(number for number in range(len(hall[1])) if chance.random() < 0.7)
            for asked in (case, case_of(hall)):
                expected = asunder_by_the_words(hall, asked)
                sizes.add(len(expected))
                self.assert_told(hall, asked, expected)
        self.assertTrue(sizes.issuperset(range(6)))

    def test_forty_cells(self):
        hall = tuple((name, TEN) for name in FORTY), tuple(("unlike", pair) for pair in zip(FORTY, FORTY[1:]))
        self.assert_told(hall, case_of(hall), [FORTY])
        self.assert_told((hall[0], hall[1][::2]), case_of((hall[0], hall[1][::2])), [[one, other] for one, other in zip(FORTY[::2], FORTY[1::2])])
        self.assert_told((hall[0], ()), (dict(hall[0]), ()), [[name] for name in FORTY])
        ring = ring_hall(NAMES[:12], (0, 1))
        self.assert_told(ring, case_of(ring), [list(NAMES[:12])])
        self.assert_told(ring, (dict(ring[0], c=(0,), h=(1,)), tuple(range(12))), [list("abijkl"), list("defg")])

    def test_new_lists(self):
        hall = pairs_hall("abc", (1, 2))
        told = asunder(hall, case_of(hall))
        told[0].clear()
        told.clear()
        self.assert_told(hall, case_of(hall), [["a", "b", "c"]])
