import itertools
import math
import random
import unittest

from helper import FAR, FORTY, NAMES, SORTS, TEN, fillings_of, pairs_hall, ring_hall, small_halls, wide_hall
from seekhall.cases import is_case
from seekhall.counter import counted
from seekhall.numbers import check_count


class CountedTestCase(unittest.TestCase):
    def assert_counted(self, hall, number):
        told = counted(hall)
        self.assertIsInstance(told, tuple)
        self.assertEqual((len(told), told[0]), (2, number), hall)
        self.assertIs(type(told[0]), int)
        self.assertIsInstance(told[1], tuple)
        self.assertEqual(check_count(hall, told[1]), number)
        return told[1]


def hall_of_one_room(count, room, *wishes):
    return tuple((name, room) for name in NAMES[:count]), wishes


class SmallHallsTest(CountedTestCase):
    def test_by_going_through_all_fillings(self):
        sorts = set()
        nones = 0
        for hall, fillings in small_halls(1211, 500):
            self.assert_counted(hall, len(fillings))
            sorts.update(wish[0] for wish in hall[1])
            nones += not fillings
        self.assertEqual(sorts, set(SORTS))
        self.assertGreater(nones, 100)

    def test_wishes_told_twice_in_another_order_and_cells_too(self):
        chance = random.Random(1212)
        for hall, fillings in small_halls(1213, 120):
            cells, wishes = list(hall[0]), list(hall[1] + hall[1])
            chance.shuffle(cells)
            chance.shuffle(wishes)
            self.assert_counted((tuple(cells), tuple(wishes)), len(fillings))

    def test_the_lines_are_cases_of_the_hall(self):
        for hall, fillings in small_halls(1214, 40):
            for case, how in counted(hall)[1]:
                self.assertTrue(is_case(hall, case))


class EdgesTest(CountedTestCase):
    def test_the_hall_without_cells(self):
        self.assert_counted(((), ()), 1)

    def test_cells_of_one_value(self):
        cells = (("a", (3,)), ("b", (3,)), ("c", (-FAR,)))
        self.assert_counted((cells, ()), 1)
        self.assert_counted((cells, (("unlike", ("a", "c")),)), 1)
        self.assert_counted((cells, (("unlike", ("a", "c")), ("unlike", ("a", "b")))), 0)

    def test_wishes_never_kept_and_always_kept(self):
        cells = tuple((name, TEN) for name in FORTY)
        always = (("many", TEN, tuple(FORTY[:12]), 12, 12), ("behind", tuple(FORTY[5:17]), -9), ("unlike", (FORTY[39],)))
        self.assert_counted((cells, always * 13), 10 ** 40)
        for never in (("many", (), (FORTY[7],), 1, 0), ("table", (FORTY[0],), ()), ("sum", ((1, FORTY[3]),), 10, None)):
            self.assert_counted((cells, always * 12 + (never,)), 0)
            self.assert_counted((cells, (never,) + always + (never,)), 0)

    def test_free_cells(self):
        for count in (1, 2, 31, 40):
            self.assert_counted((tuple((name, TEN) for name in FORTY[:count]), ()), 10 ** count)


class KnownNumbersTest(CountedTestCase):
    def test_unlikes(self):
        for count, values in ((1, 10), (2, 10), (3, 10), (3, 3), (4, 6), (4, 3), (5, 4), (4, 4), (6, 3)):
            self.assert_counted(hall_of_one_room(count, TEN[:values], ("unlike", NAMES[:count])), math.perm(values, count))
            self.assert_counted(pairs_hall(NAMES[:count], TEN[:values]), math.perm(values, count))
        for count, values in ((3, 3), (4, 4), (5, 3), (6, 3), (9, 2), (10, 2)):
            self.assert_counted(ring_hall(NAMES[:count], TEN[:values]), (values - 1) ** count + (-1) ** count * (values - 1))

    def test_behinds(self):
        for count, values in ((1, 10), (2, 10), (3, 10), (4, 6), (5, 4), (6, 3), (10, 2)):
            names = NAMES[:count]
            self.assert_counted(hall_of_one_room(count, TEN[:values], ("behind", names, 1)), math.comb(values, count))
            self.assert_counted(hall_of_one_room(count, TEN[:values], ("behind", names, 0)), math.comb(values + count - 1, count))
            pairs = [("behind", pair, 0) for pair in zip(names, names[1:])]
            self.assert_counted(hall_of_one_room(count, TEN[:values], *pairs), math.comb(values + count - 1, count))
            self.assert_counted(hall_of_one_room(count, TEN[:values], ("behind", names, -9)), values ** count)

    def test_manies(self):
        for count, values in ((3, 10), (4, 6), (5, 4), (6, 3), (10, 2)):
            for low, high in ((0, 1), (1, 2), (2, count), (count, count), (3, 1)):
                number = sum(math.comb(count, hits) * (values - 1) ** (count - hits) for hits in range(low, min(high, count) + 1))
                self.assert_counted(hall_of_one_room(count, TEN[:values], ("many", (1,), NAMES[:count], low, high)), number)

    def test_ways(self):
        for count, values in ((3, 10), (4, 6), (5, 4), (6, 3), (10, 2)):
            steps = tuple((state, value, (state + value) % values) for state in range(values) for value in range(values))[:60]
            if len(steps) == values * values:
                for end in range(0, values, 2):
                    self.assert_counted(hall_of_one_room(count, TEN[:values], ("way", NAMES[:count], steps, (end,))), values ** (count - 1))
            no_two = ((0, 0, 0), (0, 1, 1), (1, 0, 0))
            number = sum(math.comb(count - ones + 1, ones) for ones in range(count + 1))
            self.assert_counted(hall_of_one_room(count, TEN[:values], ("way", NAMES[:count], no_two, (0, 1))), number)

    def test_tables_sums_and_sames(self):
        rows = tuple(itertools.product(range(4), repeat=3))[::2]
        self.assert_counted(hall_of_one_room(5, TEN[:4], ("table", NAMES[1:4], rows)), 32 * 16)
        self.assert_counted(hall_of_one_room(3, TEN, ("sum", ((1, "a"), (1, "b"), (1, "c")), 9, 9)), math.comb(11, 2))
        self.assert_counted(hall_of_one_room(4, TEN[:6], ("same", "d", (0, 1), ("unlike", ("a", "b", "c")))), 120 * 2 + 96 * 4)


class WideHallsTest(CountedTestCase):
    def test_groups_and_free_cells(self):
        for seed in range(20):
            hall, groups = wide_hall(random.Random(9500 + seed), 0 if seed < 15 else 1)
            self.assert_counted(hall, math.prod(len(fillings) for fillings in groups))

    def test_numbers_of_thirty_figures_and_beyond(self):
        cells = tuple((name, TEN) for name in FORTY)
        names = tuple(FORTY)
        wishes = tuple(("unlike", names[place:place + 3]) for place in range(0, 12, 3))
        wishes += (("behind", names[12:15], 1), ("sum", tuple((1, name) for name in names[15:18]), 9, 9), ("many", (0,), names[18:21], 1, 1))
        number = 720 ** 4 * 120 * 55 * 243 * 10 ** 19
        self.assertGreater(number, 10 ** 30)
        self.assert_counted((cells, wishes), number)
        self.assert_counted((cells, wishes * 5), number)

    def test_thirteen_groups_of_a_thousand(self):
        cells = tuple((name, TEN) for name in FORTY)
        names = tuple(FORTY)
        wishes = []
        for place in range(0, 39, 3):
            wishes += [("unlike", names[place:place + 3]), ("sum", ((1, names[place]), (-2, names[place + 1]), (3, names[place + 2])), 0, 20)]
        one = len(fillings_of((cells[:3], tuple(wishes[:2]))))
        self.assert_counted((cells, tuple(wishes)), one ** 13 * 10)

    def test_groups_of_two_thousand_with_many_wishes(self):
        chance = random.Random(1215)
        cells = tuple((name, (0, 1)) for name in NAMES[:10])
        wishes = tuple(("many", (1,), tuple(chance.sample(NAMES[:10], 9)), chance.randint(0, 3), chance.randint(6, 9)) for time in range(40))
        self.assert_counted((cells, wishes), len(fillings_of((cells, wishes))))


class StaysTest(CountedTestCase):
    def test_what_was_asked_before_or_changed_in_what_was_told(self):
        hall = ring_hall("abcd", (1, 2, 3))
        paper = self.assert_counted(hall, 18)
        for case, how in paper:
            case[0].clear()
        self.assert_counted((hall[0], hall[1][1:]), 24)
        self.assert_counted(hall, 18)
        self.assertEqual(hall, ring_hall("abcd", (1, 2, 3)))
