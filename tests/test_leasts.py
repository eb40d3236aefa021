import random

from helper import FORTY, NAMES, TEN, HallTestCase, fillings_of, kept_by_the_words, pairs_hall, ring_hall, small_halls, wide_hall
from seekhall.leasts import lessened
from seekhall.nones import named_in


class LessenedTestCase(HallTestCase):
    def assert_lessened(self, hall, fits):
        found = lessened(hall)
        self.assertIsInstance(found, tuple)
        if fits:
            self.assertEqual((len(found), found[0]), (2, "fits"), hall)
            self.assert_filling(hall, found[1])
            return ()
        self.assertEqual((len(found), found[0]), (4, "least"), hall)
        numbers, paper, fillings = found[1:]
        self.assertIsInstance(numbers, tuple)
        self.assertEqual(list(numbers), sorted(set(numbers)))
        self.assert_paper(hall, paper)
        self.assertLessEqual(set(named_in(paper)), set(numbers))
        self.assertIsInstance(fillings, list)
        self.assertEqual(len(fillings), len(numbers))
        for number, filling in zip(numbers, fillings):
            self.assert_filling(hall, filling, [hall[1][other] for other in numbers if other != number])
        return numbers


class LessenedTest(LessenedTestCase):
    def test_small_halls(self):
        told = {True: 0, False: 0}
        sizes = set()
        for hall, fillings in small_halls(921, 400):
            sizes.add(len(self.assert_lessened(hall, bool(fillings))))
            told[bool(fillings)] += 1
        self.assertGreater(min(told.values()), 100)
        self.assertTrue(sizes.issuperset(range(6)), sizes)

    def test_a_set_is_least_by_going_through_all(self):
        for hall, fillings in small_halls(922, 80):
            if not fillings:
                numbers = lessened(hall)[1]
                self.assertEqual(fillings_of((hall[0], tuple(hall[1][number] for number in numbers))), [])
                for number in numbers:
                    self.assertNotEqual(fillings_of((hall[0], tuple(hall[1][other] for other in numbers if other != number))), [])

    def test_the_halls_without_cells_and_without_wishes(self):
        self.assertEqual(lessened(((), ())), ("fits", {}))
        self.assert_lessened((tuple((name, TEN) for name in FORTY), ()), True)

    def test_a_wish_that_is_never_kept(self):
        hall = pairs_hall("abc", (1, 2))
        never = ("many", (), ("d",), 1, 0)
        for place in range(4):
            numbers = self.assert_lessened((hall[0] + (("d", TEN),), hall[1][:place] + (never,) + hall[1][place:]), False)
            self.assertIn(numbers, ((place,), tuple(number for number in range(4) if number != place)))

    def test_wishes_told_twice(self):
        hall = pairs_hall("abc", (1, 2))
        numbers = self.assert_lessened((hall[0], hall[1] + hall[1] + hall[1]), False)
        self.assertEqual(sorted(number % 3 for number in numbers), [0, 1, 2])
        table = ("table", ("a",), ((1,),)), ("table", ("a",), ((2,),))
        self.assertEqual(len(self.assert_lessened(((("a", (1, 2)),), (table[0], table[0], table[1], table[1])), False)), 2)

    def test_rings_of_behinds_with_wishes_between_that_are_always_kept(self):
        for count in range(2, 9):
            names = NAMES[:count]
            room = TEN[:{2: 10, 3: 10, 4: 6, 5: 4}.get(count, 2)]
            behinds = [("behind", pair, 0) for pair in zip(names, names[1:])] + [("behind", (names[-1], names[0]), 1)]
            wishes = []
            for behind in behinds:
                wishes += [("many", TEN, names, count, count), behind, ("behind", names, -100)]
            hall = tuple((name, room) for name in names), tuple(wishes)
            self.assertEqual(self.assert_lessened(hall, False), tuple(range(1, 3 * count, 3)))
            self.assert_lessened((hall[0], hall[1][:-2]), True)

    def test_a_ring_needs_each_of_its_wishes(self):
        for count in (3, 5, 7, 9):
            hall = ring_hall(NAMES[:count], (0, 1))
            self.assertEqual(self.assert_lessened(hall, False), tuple(range(count)))
            numbers = self.assert_lessened((hall[0], hall[1] + (("unlike", ("a", "c")),)), False)
            self.assertIn(numbers, (tuple(range(count)), (0, 1, count)))


class WideHallsTest(LessenedTestCase):
    def test_groups_of_which_some_have_no_filling(self):
        for sick in (0, 1, 1, 2, 3):
            for seed in range(5):
                hall, groups = wide_hall(random.Random(9400 + 10 * sick + seed), sick)
                numbers = self.assert_lessened(hall, sick == 0)
                if sick:
                    names = [name for fillings in groups if fillings for name in fillings[0] if len(dict(hall[0])[name]) > 1]
                    self.assertFalse(any(name in str(hall[1][number]) for number in numbers for name in names))

    def test_forty_wishes_in_two_rings(self):
        one, other = ring_hall(tuple(FORTY[:9]), (0, 1)), ring_hall(tuple(FORTY[9:18]), (0, 1))
        wishes = one[1] + other[1]
        chance = random.Random(923)
        extra = tuple(("many", (0, 1), tuple(chance.sample(FORTY[:18], 12)), 12, 12) for time in range(22))
        numbers = self.assert_lessened((one[0] + other[0], wishes + extra), False)
        self.assertIn(numbers, (tuple(range(9)), tuple(range(9, 18))))


class StaysTest(LessenedTestCase):
    def test_what_was_asked_before_or_changed_in_what_was_told(self):
        hall = pairs_hall("abc", (1, 2))
        first = lessened(hall)
        before = [dict(filling) for filling in first[3]]
        first[3][0].clear()
        first[3].clear()
        lessened((hall[0], hall[1][1:] + (("unlike", ("a",)),)))
        again = lessened(hall)
        self.assertEqual((again[1], again[2], again[3]), (first[1], first[2], before))
        self.assertTrue(all(kept_by_the_words(hall[1][1], filling) for filling in again[3][:1]))
