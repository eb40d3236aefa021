"""What the document promises over the whole program."""

import itertools
import random

from helper import FORTY, NAMES, TEN, HallTestCase, fillings_of, pairs_hall, raised, ring_hall, small_halls, wide_hall
from seekhall.bests import best_of
from seekhall.cases import case_of
from seekhall.counter import counted
from seekhall.errors import HallError
from seekhall.halls import all_kept
from seekhall.leasts import lessened
from seekhall.lefts import can_be, what_is_left
from seekhall.nones import check_none, named_in
from seekhall.numbers import check_count
from seekhall.seeker import seek
from seekhall.swaps import cell_swaps, value_swaps
from seekhall.turnings import leads_on, turned_filling, turned_rooms, turned_wish

LOOSE = ("cxx", "cxy", "cxz")


def shut_out(filling):
    """A wish that any other filling of these cells keeps: not each cell has its value."""
    names = tuple(filling)
    steps = tuple((place, filling[name], place + 1) for place, name in enumerate(names))
    return ("same", LOOSE[0], (1,), ("way", names, steps, (len(names),)))


def with_value(hall, name, value):
    return tuple((cell, (value,) if cell == name else room) for cell, room in hall[0]), hall[1]


def random_turning(chance, hall):
    names = [name for name, room in hall[0]]
    values = sorted({value for name, room in hall[0] for value in room})
    new = chance.sample(FORTY, len(names))
    cells = dict(zip(names + new, new + names))
    by_size = any(wish[0] in ("sum", "behind") or (wish[0] == "same" and wish[3][0] in ("sum", "behind")) for wish in hall[1])
    return cells, {} if by_size else dict(zip(values, chance.sample(values, len(values))))


def turned_hall(turning, hall):
    return tuple(turned_rooms(turning, dict(hall[0])).items()), tuple(turned_wish(turning, wish) for wish in hall[1])


class FillingsOneByOneTest(HallTestCase):
    def test_as_many_as_are_counted(self):
        asked = 0
        for hall, fillings in small_halls(1401, 120):
            if len(fillings) > 30:
                continue
            number = counted(hall)[0]
            found = []
            now = hall[0] + ((LOOSE[0], (0,)),), hall[1]
            told = seek(now)
            while told[0] == "fits":
                self.assert_filling(now, told[1])
                filling = {name: told[1][name] for name, room in hall[0]}
                self.assertNotIn(filling, found)
                found.append(filling)
                now = now[0], now[1] + (shut_out(filling),)
                told = seek(now)
            self.assert_paper(now, told[1])
            self.assertEqual((len(found), number), (len(fillings), len(fillings)))
            asked += number > 3
        self.assertGreater(asked, 10)


class ValuesTest(HallTestCase):
    def assert_together(self, hall, cells):
        number, left = counted(hall)[0], what_is_left(hall)
        for name, room in cells:
            told = [counted(with_value(hall, name, value))[0] for value in room]
            self.assertEqual(sum(told), number)
            self.assertEqual(tuple(value for value, one in zip(room, told) if one > 0), left[name])
            for value, one in zip(room, told):
                self.assertEqual(can_be(hall, name, value)[0], "fits" if one else "none")

    def test_small_halls(self):
        for hall, fillings in small_halls(1402, 80):
            self.assert_together(hall, hall[0])

    def test_wide_halls(self):
        for seed in range(4):
            hall = wide_hall(random.Random(9700 + seed), 0)[0]
            self.assert_together(hall, hall[0][seed::9])


class TurnedTest(HallTestCase):
    def test_a_hall_turned_is_counted_to_the_same_number(self):
        chance = random.Random(1403)
        for hall, fillings in small_halls(1404, 120):
            turning = random_turning(chance, hall)
            other = turned_hall(turning, hall)
            self.assertEqual(counted(other)[0], len(fillings))
            self.assertEqual(seek(other)[0], seek(hall)[0])
            for filling in fillings[:20]:
                self.assertTrue(all_kept(other, turned_filling(turning, filling)))

    def test_a_wide_hall_turned(self):
        chance = random.Random(1405)
        hall = wide_hall(random.Random(9800), 0)[0]
        names = [name for name, room in hall[0]]
        turning = dict(zip(names, chance.sample(names, len(names)))), {}
        self.assertEqual(counted(turned_hall(turning, hall))[0], counted(hall)[0])

    def test_swaps_lead_fillings_to_fillings(self):
        found = 0
        for hall, fillings in small_halls(1406, 120):
            turnings = [({one: other, other: one}, {}) for one, other in cell_swaps(hall)]
            turnings += [({}, {one: other, other: one}) for one, other in value_swaps(hall)]
            for turning in turnings:
                self.assertTrue(leads_on(hall, turning))
                turned = [turned_filling(turning, filling) for filling in fillings]
                self.assertTrue(all(filling in fillings for filling in turned))
                self.assertTrue(all(one != other for one, other in itertools.combinations(turned[:40], 2)))
                found += bool(turned)
        self.assertGreater(found, 20)


class MoreBesideTest(HallTestCase):
    """A paper told of a hall is let by in the hall with more wishes and cells beside."""

    def more_of(self, hall):
        cells = hall[0] + tuple((name, TEN) for name in LOOSE)
        return cells, hall[1] + (("unlike", LOOSE), ("behind", (hall[0][0][0],) + LOOSE, 0), ("table", LOOSE[:1], ((3,), (4,))))

    def test_papers_of_none(self):
        asked = 0
        for hall, fillings in small_halls(1407, 150):
            if not fillings:
                more = self.more_of(hall)
                asked += 1
                self.assert_paper(more, seek(hall)[1])
                self.assert_paper(more, lessened(hall)[2])
                self.assertEqual(seek(more)[0], "none")
        self.assertGreater(asked, 40)

    def test_papers_that_none_is_better(self):
        for hall, fillings in small_halls(1408, 60):
            if fillings:
                terms = ((2, hall[0][0][0]), (-1, hall[0][1][0]))
                word, filling, worth, paper = best_of(hall, terms)
                cells, wishes = self.more_of((hall[0], hall[1] + (("sum", terms, worth + 1, None),)))
                self.assert_paper((cells, wishes), paper)

    def test_papers_of_numbers(self):
        for hall, fillings in small_halls(1409, 60):
            number, paper = counted(hall)
            more = hall[0] + tuple((name, TEN) for name in LOOSE), hall[1] + (("many", TEN, LOOSE, 3, 3),)
            self.assertEqual(raised(HallError, check_count, more, paper).at, len(paper))
            beside = ({name: TEN for name in LOOSE}, ()), ("all",)
            last = case_of(more), ("apart", (len(paper) - 1, len(paper)))
            self.assertEqual(check_count(more, paper + (beside, last)), 1000 * number)


class AllTogetherTest(HallTestCase):
    def test_what_the_functions_tell_agrees(self):
        for hall, fillings in small_halls(1410, 100):
            number = counted(hall)[0]
            words = seek(hall)[0], lessened(hall)[0], best_of(hall, ((1, hall[0][0][0]),))[0]
            self.assertEqual(words, ("fits", "fits", "best") if number else ("none", "least", "none"))
            if number:
                left = what_is_left(hall)[hall[0][0][0]]
                self.assertEqual(best_of(hall, ((1, hall[0][0][0]),))[2], left[-1])
                self.assertEqual(best_of(hall, ((-1, hall[0][0][0]),))[2], -left[0])

    def test_no_filling_keeps_the_wishes_named(self):
        for hall, fillings in small_halls(1411, 100):
            if not fillings:
                paper = lessened(hall)[2]
                named = named_in(paper)
                self.assertEqual(fillings_of((hall[0], tuple(hall[1][number] for number in named))), [])

    def test_known_halls(self):
        ring = ring_hall(NAMES[:9], (0, 1))
        self.assertEqual((counted(ring)[0], seek(ring)[0], len(lessened(ring)[1]), cell_swaps(ring), value_swaps(ring)), (0, "none", 9, [], [(0, 1)]))
        pairs = pairs_hall("abcd", (1, 2, 3, 4))
        self.assertEqual((counted(pairs)[0], len(cell_swaps(pairs)), len(value_swaps(pairs))), (24, 6, 6))
        self.assertTrue(check_none((pairs[0], pairs[1] + (("sum", ((1, "a"),), 5, None),)), best_of(pairs, ((1, "a"),))[3]))
