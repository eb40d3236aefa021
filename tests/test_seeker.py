import itertools
import random

from helper import FAR, FORTY, NAMES, SORTS, TEN, HallTestCase, fillings_of, pairs_hall, refused_at, ring_hall, small_halls, wide_hall
from seekhall.nones import named_in
from seekhall.seeker import seek


class SeekTestCase(HallTestCase):
    def assert_sought(self, hall, fits):
        found = seek(hall)
        self.assertIsInstance(found, tuple)
        self.assertEqual((len(found), found[0]), (2, "fits" if fits else "none"), hall)
        if fits:
            self.assert_filling(hall, found[1])
        else:
            self.assert_paper(hall, found[1])
        return found[1]


class SmallHallsTest(SeekTestCase):
    def test_just_where_going_through_all_finds_one(self):
        told = {True: 0, False: 0}
        sorts = set()
        longest = 0
        for hall, fillings in small_halls(801, 700):
            thing = self.assert_sought(hall, bool(fillings))
            sorts.update(wish[0] for wish in hall[1])
            told[bool(fillings)] += 1
            longest = max(longest, 0 if fillings else len(thing))
        self.assertGreater(min(told.values()), 200)
        self.assertGreater(longest, 10)
        self.assertEqual(sorts, set(SORTS))

    def test_each_sort_by_itself(self):
        for number, sort in enumerate(SORTS):
            for hall, fillings in small_halls(810 + number, 60):
                alone = hall[0], tuple(wish for wish in hall[1] if wish[0] == sort)
                self.assert_sought(alone, bool(fillings_of(alone)))

    def test_papers_held_against_the_words(self):
        asked = 0
        for hall, fillings in small_halls(802, 120):
            if not fillings:
                asked += 1
                self.assertIsNone(refused_at(hall, seek(hall)[1]))
        self.assertGreater(asked, 30)

    def test_only_the_wishes_that_the_paper_names(self):
        fewer = 0
        for hall, fillings in small_halls(803, 200):
            if not fillings:
                named = named_in(seek(hall)[1])
                fewer += len(named) < len(hall[1])
                self.assert_sought((hall[0], tuple(hall[1][number] for number in named)), False)
        self.assertGreater(fewer, 30)

    def test_cells_and_wishes_in_another_order(self):
        chance = random.Random(804)
        for hall, fillings in small_halls(805, 150):
            cells, wishes = list(hall[0]), list(hall[1])
            chance.shuffle(cells)
            chance.shuffle(wishes)
            self.assert_sought((tuple(cells), tuple(wishes)), bool(fillings))

    def test_wishes_told_twice(self):
        for hall, fillings in small_halls(806, 100):
            self.assert_sought((hall[0], hall[1] + hall[1]), bool(fillings))


class EdgesTest(SeekTestCase):
    def test_the_hall_without_cells(self):
        self.assertEqual(seek(((), ())), ("fits", {}))

    def test_the_hall_without_wishes(self):
        self.assert_sought((tuple((name, TEN) for name in FORTY), ()), True)

    def test_cells_of_one_value(self):
        cells = (("a", (3,)), ("b", (3,)), ("c", (4,)))
        self.assertEqual(seek((cells, (("unlike", ("a", "c")), ("table", ("a", "b"), ((3, 3),))))), ("fits", {"a": 3, "b": 3, "c": 4}))
        for wish in (("unlike", ("a", "b")), ("table", ("c",), ()), ("same", "a", (3,), ("behind", ("b", "c"), 2))):
            self.assert_sought((cells, (("unlike", ("a", "c")), wish)), False)

    def test_a_wish_that_is_never_kept_beside_others(self):
        cells = tuple((name, (0, 1)) for name in "abcd")
        for wish in (("many", (1,), ("a", "b"), 2, 1), ("sum", ((1, "a"),), 2, None), ("way", ("a",), (), (0,)), ("table", ("d", "a"), ())):
            for wishes in ((wish,), (("unlike", ("a", "b")), wish), (wish, ("unlike", ("a", "b")), wish)):
                self.assert_sought((cells, wishes), False)

    def test_all_unlike_with_one_value_too_few(self):
        for count in (2, 3, 4, 5):
            names, room = NAMES[:count], TEN[1:count]
            cells = tuple((name, room) for name in names)
            for some in (True, False):
                rooms = tuple((name, room + ((9,) if some else ())) for name in names)
                self.assert_sought((rooms, (("unlike", names),)), some)
                self.assert_sought((rooms, tuple(("unlike", pair) for pair in itertools.combinations(names, 2))), some)
            self.assertEqual(len(seek((cells, (("unlike", names),)))[1]), 1)

    def test_rings_of_two_values(self):
        for count in range(2, 11):
            names = NAMES[:count]
            self.assert_sought(ring_hall(names, (-FAR, FAR)), count % 2 == 0)
            cells, wishes = ring_hall(names, (0, 1))
            self.assertEqual(seek((cells, wishes[:-1]))[0], "fits")

    def test_somewhat_beyond_the_bounds(self):
        self.assert_sought(pairs_hall("abcdef", TEN[:5]), False)
        self.assert_sought(ring_hall(NAMES[:15], (0, 1)), False)
        twelve = tuple((name, TEN) for name in NAMES[:12])
        self.assert_sought((twelve, (("unlike", NAMES[:12]),)), False)
        self.assert_sought((twelve[:10], (("unlike", NAMES[:10]),)), True)

    def test_greatest_numbers(self):
        cells = tuple((name, (-FAR, -1, FAR)) for name in NAMES[:6])
        terms = tuple((FAR, name) for name in NAMES[:6])
        self.assert_sought((cells, (("sum", terms, 6 * 10 ** 12, None),)), True)
        self.assert_sought((cells, (("sum", terms, 6 * 10 ** 12 + 1, 10 ** 13),)), False)
        self.assert_sought((cells, (("sum", terms, 6 * 10 ** 12, None), ("behind", ("a", "b"), 1))), False)
        self.assert_sought((cells, (("behind", ("a", "b", "c"), FAR - 1),)), True)
        self.assert_sought((cells, (("behind", ("a", "b", "c"), FAR),)), False)


class WideHallsTest(SeekTestCase):
    def test_groups_of_which_none_one_or_several_have_no_filling(self):
        for sick in (0, 0, 1, 1, 2, 3):
            for seed in range(6):
                hall, groups = wide_hall(random.Random(100 * sick + seed), sick)
                self.assertEqual((len(hall[0]), len(hall[1])), (40, 40))
                self.assertEqual(len([fillings for fillings in groups if not fillings]), sick)
                self.assert_sought(hall, sick == 0)

    def test_forty_cells_in_rings_of_ten(self):
        for lengths in ((10, 10, 10, 10), (10, 10, 10, 9), (9, 10, 10, 9)):
            cells, wishes, names = (), (), tuple(FORTY)
            for length in lengths:
                ring = ring_hall(names[:length], (0, 1))
                cells, wishes, names = cells + ring[0], wishes + ring[1], names[length:]
            self.assert_sought((cells, wishes), lengths == (10, 10, 10, 10))

    def test_ten_cells_by_forty_ways(self):
        chance = random.Random(807)
        cells = tuple((name, (0, 1)) for name in NAMES[:10])
        steps = ((0, 0, 0), (0, 1, 1), (1, 0, 1), (1, 1, 0))
        wanted = {name: chance.randint(0, 1) for name in NAMES[:10]}
        for spoilt in (False, True):
            wishes = []
            for time in range(40):
                names = tuple(chance.sample(NAMES[:10], chance.randint(4, 10)))
                odd = sum(wanted[name] for name in names) % 2
                wishes.append(("way", names, steps, (1 - odd if spoilt and time == 20 else odd,)))
            self.assert_sought((cells, tuple(wishes)), bool(fillings_of((cells, tuple(wishes)))))


class StaysTest(SeekTestCase):
    def test_another_hall_asked_between(self):
        chance = random.Random(808)
        for hall, fillings in small_halls(809, 60):
            if not hall[1]:
                continue
            first = seek(hall)
            place = chance.randrange(len(hall[1]))
            other = hall[0], hall[1][:place] + (("unlike", ("a", "b")),) + hall[1][place + 1:]
            self.assert_sought(other, bool(fillings_of(other)))
            self.assertEqual(seek(hall), first)

    def test_what_is_changed_in_what_was_told(self):
        hall = pairs_hall("abc", (1, 2, 3))
        first = seek(hall)
        before = dict(first[1])
        first[1].clear()
        self.assertEqual(seek(hall), ("fits", before))
