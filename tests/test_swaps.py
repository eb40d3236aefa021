import itertools
import random
import unittest

from helper import FORTY, NAMES, TEN, loose_wish, pairs_hall, random_rooms, random_wish, ring_hall, wide_hall
from seekhall.swaps import cell_swaps, value_swaps
from seekhall.turnings import leads_on, plain_form, turned_wish


def exchanged(pair):
    return {pair[0]: pair[1], pair[1]: pair[0]}


def cells_by_the_words(hall):
    pairs = itertools.combinations([name for name, room in hall[0]], 2)
    return [pair for pair in pairs if leads_on(hall, (exchanged(pair), {}))]


def values_by_the_words(hall):
    pairs = itertools.combinations(sorted({value for name, room in hall[0] for value in room}), 2)
    return [pair for pair in pairs if leads_on(hall, ({}, exchanged(pair)))]


class SwapsTestCase(unittest.TestCase):
    def assert_swaps(self, hall, cells, values):
        for told, expected in ((cell_swaps(hall), cells), (value_swaps(hall), values)):
            self.assertIsInstance(told, list)
            self.assertTrue(all(isinstance(pair, tuple) for pair in told))
            self.assertEqual(told, expected, hall)


class SwapsTest(SwapsTestCase):
    def test_the_hall_without_cells(self):
        self.assert_swaps(((), ()), [], [])

    def test_the_hall_without_wishes(self):
        hall = ((("c", (1, 2)), ("a", (1, 2)), ("d", (2, 3)), ("b", (1, 2))), ())
        self.assert_swaps(hall, [("c", "a"), ("c", "b"), ("a", "b")], [])
        self.assert_swaps(((("a", (5, 7)), ("b", (1, 2, 3))), ()), [], [(1, 2), (1, 3), (2, 3), (5, 7)])

    def test_by_places_in_the_hall_not_by_names(self):
        hall = tuple((name, (-1, 2)) for name in "zya"), (("unlike", ("a", "z")),)
        self.assert_swaps(hall, [("z", "a")], [(-1, 2)])
        self.assert_swaps((hall[0][::-1], hall[1]), [("a", "z")], [(-1, 2)])

    def test_twelve_cells_of_one_room_all_unlike(self):
        names = NAMES[:12]
        hall = tuple((name, TEN) for name in names), (("unlike", names),)
        self.assert_swaps(hall, list(itertools.combinations(names, 2)), list(itertools.combinations(TEN, 2)))
        self.assert_swaps((hall[0], (("unlike", names[:11]),)), list(itertools.combinations(names[:11], 2)), list(itertools.combinations(TEN, 2)))
        self.assert_swaps((hall[0][:1] + (("b", TEN[:9]),) + hall[0][2:], hall[1]), list(itertools.combinations(("a",) + names[2:], 2)),
                          list(itertools.combinations(TEN[:9], 2)))

    def test_each_sort(self):
        cells = tuple((name, (1, 2, 3)) for name in "abc")
        every = [(1, 2), (1, 3), (2, 3)]
        for wish, swaps, values in (
                (("unlike", ("c", "a")), [("a", "c")], every), (("many", (3, 1), ("a", "b"), 1, 1), [("a", "b")], [(1, 3)]),
                (("sum", ((1, "a"), (1, "c")), 3, None), [("a", "c")], []), (("sum", ((1, "a"), (2, "c")), 3, None), [], []),
                (("sum", ((1, "a"),), None, None), [("b", "c")], []), (("table", ("a", "b"), ((1, 2), (2, 1))), [("a", "b")], [(1, 2)]),
                (("table", ("a", "b"), ((1, 2), (1, 1))), [], []), (("table", ("a", "b"), ((1, 2), (1, 3))), [], [(2, 3)]),
                (("way", ("a", "b"), ((0, 1, 1), (0, 2, 1), (1, 3, 0)), (0,)), [], [(1, 2)]), (("behind", ("a", "b"), 0), [], []),
                (("same", "c", (1,), ("unlike", ("b", "a"))), [("a", "b")], [(2, 3)]), (("same", "c", (), ("behind", ("b",), 0)), [], [])):
            hall = cells, (wish,)
            self.assert_swaps(hall, swaps, values)
            self.assertEqual((swaps, values), (cells_by_the_words(hall), values_by_the_words(hall)))

    def test_wishes_that_are_led_to_one_another(self):
        cells = tuple((name, (1, 2, 3)) for name in "abcd")
        tables = ("table", ("a",), ((1,),)), ("table", ("b",), ((1,),)), ("table", ("a",), ((2,),)), ("table", ("b",), ((2,),))
        self.assert_swaps((cells, tables), [("a", "b"), ("c", "d")], [(1, 2)])
        self.assert_swaps((cells, tables[:3]), [("c", "d")], [])
        self.assert_swaps((cells, tables[:2] + tables[:1]), [("c", "d")], [(2, 3)])
        self.assert_swaps((cells, tables[:2] + tables[:2]), [("a", "b"), ("c", "d")], [(2, 3)])

    def test_values_that_stand_in_wishes_alone(self):
        hall = ((("a", (1, 2)), ("b", (1, 2))), (("table", ("a", "b"), ((1, 9), (2, 9))), ("many", (1, 7), ("b",), 0, 1)))
        self.assert_swaps(hall, [], [])
        self.assert_swaps((hall[0], hall[1][:1]), [], [(1, 2)])

    def test_halls_by_chance(self):
        chance = random.Random(1001)
        found = 0
        for turn in range(250):
            names = NAMES[:5]
            cells = tuple((name, (0, 1, 2)) for name in names) if turn % 2 else tuple(random_rooms(chance, names, 2).items())
            sorts = ("unlike", "many", "table", "way") if turn % 3 else ("unlike", "many", "sum", "table", "way", "behind", "same")
            wishes = [(loose_wish(chance, names, (0, 1, 2), sorts) if turn % 2 else random_wish(chance, names, sorts)) for time in range(turn % 4)]
            if turn % 5 == 0 and wishes:
                pair = exchanged(chance.sample(names, 2)), {}
                wishes += [turned_wish(pair, wish) for wish in wishes]
            hall = tuple(cells), tuple(wishes)
            expected = cells_by_the_words(hall), values_by_the_words(hall)
            found += bool(expected[0]) + bool(expected[1])
            self.assert_swaps(hall, *expected)
        self.assertGreater(found, 100)

    def test_forty_cells_and_forty_wishes(self):
        hall = tuple((name, TEN) for name in FORTY), tuple(("many", (1, 2, 3), (name,), 0, 0) for name in FORTY)
        triples = [pair for pair in itertools.combinations(TEN, 2) if (pair[0] in (1, 2, 3)) == (pair[1] in (1, 2, 3))]
        self.assert_swaps(hall, list(itertools.combinations(FORTY, 2)), triples)
        ring = ring_hall(tuple(FORTY), TEN)
        self.assert_swaps(ring, [], list(itertools.combinations(TEN, 2)))
        own = tuple((name, tuple(range(10 * place, 10 * place + 10))) for place, name in enumerate(FORTY))
        self.assertEqual(len(value_swaps((own, tuple(("unlike", (name,)) for name in FORTY)))), 40 * 45)
        wide = wide_hall(random.Random(1002), 0)[0]
        self.assert_swaps(wide, cells_by_the_words(wide), values_by_the_words(wide))

    def test_greatest_tables(self):
        chance = random.Random(1003)
        tables = []
        for time in range(20):
            rows = sorted({tuple(chance.choice(TEN) for place in range(12)) for row in range(60)})
            table = ("table", NAMES[:12], tuple(rows))
            tables += [table, turned_wish((exchanged("ab"), exchanged((3, 7))), table)]
        hall = tuple((name, TEN) for name in NAMES[:14]), tuple(tables)
        self.assert_swaps(hall, [("m", "n")], [])
        self.assertTrue(leads_on(hall, (exchanged("ab"), exchanged((3, 7)))))
        self.assertEqual(len({plain_form(table) for table in tables}), 40)

    def test_new_lists_each_time(self):
        hall = pairs_hall("abc", (1, 2))
        cell_swaps(hall).clear()
        value_swaps(hall).clear()
        self.assert_swaps(hall, [("a", "b"), ("a", "c"), ("b", "c")], [(1, 2)])
