import random

from helper import FAR, FORTY, NAMES, TEN, HallTestCase, pairs_hall, small_halls, wide_hall
from seekhall.bests import best_of


def worth_of(terms, filling):
    worth = 0
    for factor, cell in terms:
        worth += factor * filling[cell]
    return worth


def random_terms(chance, names, most=6):
    cells = chance.sample(names, chance.randint(1, min(most, len(names))))
    return tuple((chance.choice((-FAR, -7, -1, 1, 2, 3, FAR)), cell) for cell in cells)


class BestTestCase(HallTestCase):
    def assert_best(self, hall, terms, greatest):
        """Told with the greatest worth and a paper, or, where greatest is None, with a paper for the hall as it is."""
        found = best_of(hall, terms)
        self.assertIsInstance(found, tuple)
        if greatest is None:
            self.assertEqual((len(found), found[0]), (2, "none"))
            self.assert_paper(hall, found[1])
            return found
        self.assertEqual((len(found), found[0], found[2]), (4, "best", greatest), (hall, terms))
        self.assert_filling(hall, found[1])
        self.assertEqual(worth_of(terms, found[1]), greatest)
        self.assert_paper((hall[0], hall[1] + (("sum", terms, greatest + 1, None),)), found[3])
        return found


class BestTest(BestTestCase):
    def test_small_halls(self):
        chance = random.Random(901)
        told = {True: 0, False: 0}
        lengths = set()
        for hall, fillings in small_halls(902, 400):
            terms = random_terms(chance, [name for name, room in hall[0]])
            self.assert_best(hall, terms, max([worth_of(terms, filling) for filling in fillings], default=None))
            told[bool(fillings)] += 1
            lengths.add(len(terms))
        self.assertGreater(min(told.values()), 100)
        self.assertTrue(lengths.issuperset(range(1, 6)))

    def test_the_hall_without_wishes(self):
        cells = tuple((name, (-FAR, 0, FAR)) for name in NAMES[:6])
        terms = tuple((FAR if place % 2 else -FAR, name) for place, name in enumerate(NAMES[:6]))
        found = self.assert_best((cells, ()), terms, 6 * 10 ** 12)
        self.assertEqual([found[1][name] for name in NAMES[:6]], [-FAR, FAR] * 3)
        self.assertEqual(found[3], ((0, ()),))

    def test_cells_of_one_value(self):
        hall = ((("a", (3,)), ("b", (-2,)), ("c", (1, 2))), (("behind", ("b", "c", "a"), 1),))
        self.assert_best(hall, ((5, "a"),), 15)
        self.assert_best(hall, ((5, "a"), (FAR, "b")), 15 - 2 * FAR)
        self.assert_best(hall, ((1, "b"), (-1, "c")), -3)

    def test_one_term_of_ten_values(self):
        hall = tuple((name, TEN) for name in "abc"), (("unlike", ("a", "b", "c")), ("behind", ("a", "b", "c"), 2))
        for terms, greatest in ((((1, "a"),), 5), (((-1, "a"),), 0), (((-1, "c"),), -4), (((FAR, "b"),), 7 * FAR), (((-FAR, "b"),), -2 * FAR)):
            self.assert_best(hall, terms, greatest)

    def test_sums_with_gaps_between(self):
        hall = tuple((name, (-FAR, -1, 0, 7, FAR)) for name in "abcd"), (("unlike", ("a", "b")), ("unlike", ("c", "d")), ("behind", ("a", "c"), 3))
        terms = ((FAR, "a"), (-FAR, "b"), (1, "c"), (-3, "d"))
        self.assert_best(hall, terms, 7 * FAR + FAR * FAR + FAR + 3 * FAR)

    def test_cells_that_the_best_one_needs_are_led_by_the_wishes(self):
        hall = tuple((name, (0, 1)) for name in NAMES[:9]), tuple(("unlike", pair) for pair in zip(NAMES[:8], NAMES[1:9]))
        self.assert_best(hall, tuple((1, name) for name in NAMES[:6]), 3)
        self.assert_best(hall, tuple((1, name) for name in NAMES[0:9:2]), 5)
        self.assert_best(hall, tuple((-1, name) for name in NAMES[0:9:2]), 0)

    def test_a_hall_without_a_filling_whatever_the_terms(self):
        hall = pairs_hall("abc", (1, 2))
        cells = hall[0] + tuple((name, TEN) for name in FORTY[:6])
        self.assert_best((cells, hall[1]), tuple((1, name) for name in FORTY[:6]), None)
        self.assert_best((cells, hall[1]), ((1, "a"),), None)


class WideHallsTest(BestTestCase):
    def greatest_in(self, groups, terms):
        """The greatest worth by groups, each by the terms that stand in it; the cells alone stand in all."""
        worth = 0
        for number, fillings in enumerate(groups):
            own = [term for term in terms if term[1] in fillings[0] and (number == 0 or term[1] not in groups[0][0])]
            worth += max(worth_of(own, filling) for filling in fillings)
        return worth

    def test_forty_wishes_and_groups_beside(self):
        chance = random.Random(903)
        for seed in range(25):
            hall, groups = wide_hall(random.Random(9000 + seed), 0)
            names = chance.choice([list(fillings[0]) for fillings in groups])
            terms = random_terms(chance, names)
            self.assert_best(hall, terms, self.greatest_in(groups, terms))

    def test_terms_of_several_groups(self):
        chance = random.Random(904)
        for seed in range(10):
            cells = tuple((name, TEN) for name in FORTY)
            wishes = tuple(("behind", pair, chance.randint(-3, 9)) for pair in zip(FORTY[::4], FORTY[1::4]))
            terms = tuple((chance.choice((-FAR, -1, 1, 3)), cell) for cell in chance.sample(FORTY[2::4] + FORTY[3::4], 3))
            worth = sum(factor * (9 if factor > 0 else 0) for factor, cell in terms)
            self.assert_best((cells, wishes), terms, worth)

    def test_groups_without_a_filling(self):
        for seed in range(6):
            hall, groups = wide_hall(random.Random(9100 + seed), 1 + seed % 2)
            self.assert_best(hall, ((1, hall[0][seed][0]), (-2, hall[0][seed + 1][0])), None)


class StaysTest(BestTestCase):
    def test_what_was_asked_before_or_changed_in_what_was_told(self):
        hall, terms = pairs_hall("abcd", (1, 2, 5, 9)), ((3, "a"), (-1, "b"))
        first = best_of(hall, terms)
        before = dict(first[1])
        first[1].clear()
        best_of(hall, ((1, "b"),))
        best_of((hall[0], hall[1][1:]), terms)
        again = best_of(hall, terms)
        self.assertEqual((again[1], again[2:]), (before, first[2:]))
