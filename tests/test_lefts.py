import random

from helper import FORTY, NAMES, TEN, HallTestCase, fillings_of, pairs_hall, ring_hall, small_halls, wide_hall
from seekhall.lefts import can_be, what_is_left


def left_by_all(hall, fillings):
    return {name: tuple(sorted({filling[name] for filling in fillings})) for name, room in hall[0]}


class LeftTestCase(HallTestCase):
    def assert_can_be(self, hall, cell, value, fits):
        found = can_be(hall, cell, value)
        self.assertIsInstance(found, tuple)
        self.assertEqual((len(found), found[0]), (2, "fits" if fits else "none"), (hall, cell, value))
        if fits:
            self.assert_filling(hall, found[1])
            self.assertEqual(found[1][cell], value)
        else:
            self.assert_paper((tuple((name, (value,) if name == cell else room) for name, room in hall[0]), hall[1]), found[1])

    def assert_left(self, hall, expected):
        told = what_is_left(hall)
        self.assertIsInstance(told, dict)
        self.assertEqual(told, expected, hall)


class CanBeTest(LeftTestCase):
    def test_each_cell_and_value_of_small_halls(self):
        told = {True: 0, False: 0}
        for hall, fillings in small_halls(911, 120):
            left = left_by_all(hall, fillings)
            for name, room in hall[0]:
                for value in room:
                    self.assert_can_be(hall, name, value, value in left[name])
                    told[value in left[name]] += 1
        self.assertGreater(min(told.values()), 300)

    def test_wide_halls(self):
        chance = random.Random(912)
        for seed in range(12):
            hall, groups = wide_hall(random.Random(9200 + seed), seed % 2)
            for fillings in groups:
                if fillings:
                    name = chance.choice(list(fillings[0]))
                    for value in dict(hall[0])[name]:
                        had = any(filling[name] == value for filling in fillings)
                        self.assert_can_be(hall, name, value, had and seed % 2 == 0)

    def test_a_ring_with_one_value_set(self):
        for count in (9, 10):
            for value in (0, 1):
                self.assert_can_be(ring_hall(NAMES[:count], (0, 1)), "c", value, count == 10)


class WhatIsLeftTest(LeftTestCase):
    def test_small_halls(self):
        told = {True: 0, False: 0}
        for hall, fillings in small_halls(913, 400):
            self.assert_left(hall, left_by_all(hall, fillings))
            told[bool(fillings)] += 1
        self.assertGreater(min(told.values()), 100)

    def test_the_hall_without_cells(self):
        self.assert_left(((), ()), {})

    def test_the_hall_without_wishes(self):
        cells = tuple((name, TEN[:1 + place % 10]) for place, name in enumerate(FORTY))
        self.assert_left((cells, ()), dict(cells))

    def test_none_at_all(self):
        cells = pairs_hall("abc", (1, 2))[0] + (("d", TEN), ("e", (7,)))
        self.assert_left((cells, pairs_hall("abc", (1, 2))[1]), {name: () for name in "abcde"})

    def test_with_one_value_less_and_the_first_one_again(self):
        whole = pairs_hall("abcd", (1, 2, 3, 4))
        less = (("a", (1, 2, 3)),) + whole[0][1:], whole[1]
        fewer = (("a", (1, 2, 3)), ("b", (1, 2, 3)), ("c", (1, 2, 3))) + whole[0][3:], whole[1]
        none = tuple((name, (1, 2, 3)) for name in "abcd"), whole[1]
        for hall in (whole, less, fewer, none, whole, less, (whole[0], whole[1][1:]), whole):
            self.assert_left(hall, left_by_all(hall, fillings_of(hall)))

    def test_wide_halls(self):
        for seed in range(12):
            sick = 0 if seed < 9 else seed - 8
            hall, groups = wide_hall(random.Random(9300 + seed), sick)
            expected = {name: () for name, room in hall[0]}
            for fillings in groups:
                for name in fillings[0] if not sick else ():
                    expected[name] = tuple(sorted({filling[name] for filling in fillings}))
            self.assert_left(hall, expected)

    def test_what_is_changed_in_what_was_told(self):
        hall = pairs_hall("ab", (1, 2))
        what_is_left(hall)["a"] = ()
        self.assert_left(hall, {"a": (1, 2), "b": (1, 2)})
        can_be(hall, "a", 1)[1].clear()
        self.assertEqual(can_be(hall, "a", 1), ("fits", {"a": 1, "b": 2}))
