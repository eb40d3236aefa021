import copy
import random
import unittest

from helper import FAR, FORTY, NAMES, ORDINARY, SORTS, TEN, every_filling, fillings_of, kept_by_the_words, loose_wish, pairs_hall, random_rooms
from helper import random_wish, ring_hall, sample_wishes
from seekhall.forms import is_wish
from seekhall.turnings import is_turning, leads_on, plain_form, turned_filling, turned_rooms, turned_wish

STAYING = ({}, {})


def round_of(*things):
    """Each thing led to the next one, the last to the first."""
    return dict(zip(things, things[1:] + things[:1]))


def way_back(turning):
    return tuple({other: one for one, other in leads.items()} for leads in turning)


def random_leads(chance, things):
    keys = chance.sample(things, chance.randint(0, len(things)))
    return dict(zip(keys, chance.sample(keys, len(keys))))


def random_turning(chance, names, values):
    return random_leads(chance, names), random_leads(chance, values) if chance.random() < 0.7 else {}


def shuffled(chance, things):
    return tuple(chance.sample(things, len(things)))


def told_otherwise(chance, wish):
    """The wish in another order, wherever the order doesn't count."""
    sort = wish[0]
    if sort == "unlike":
        return (sort, shuffled(chance, wish[1]))
    if sort == "many":
        return (sort, shuffled(chance, wish[1]), shuffled(chance, wish[2]), wish[3], wish[4])
    if sort == "sum":
        return (sort, shuffled(chance, wish[1]), wish[2], wish[3])
    if sort == "table":
        places = chance.sample(range(len(wish[1])), len(wish[1]))
        rows = shuffled(chance, wish[2])
        return (sort, tuple(wish[1][place] for place in places), tuple(tuple(row[place] for place in places) for row in rows))
    if sort == "way":
        return (sort, wish[1], shuffled(chance, wish[2]), shuffled(chance, wish[3]))
    if sort == "same":
        return (sort, wish[1], shuffled(chance, wish[2]), told_otherwise(chance, wish[3]))
    return wish


class IsTurningTest(unittest.TestCase):
    def assert_told(self, thing, expected):
        self.assertIs(is_turning(thing), expected, thing)

    def test_turnings(self):
        for cells in ({}, {"a": "a"}, round_of("a", "b"), round_of("b", "a", "zzzzzzzz"), round_of(*FORTY), dict(zip(NAMES, NAMES[::-1]))):
            for values in ({}, {0: 0}, round_of(1, 2), round_of(-FAR, 10 ** 40, -(10 ** 40), 0), round_of(*range(400))):
                self.assert_told((cells, values), True)

    def test_a_key_left_out_two_led_to_one_and_one_led_to_something_new(self):
        for cells in ({"a": "b"}, {"a": "b", "b": "c"}, {"a": "b", "b": "b"}, {"a": "a", "b": "a"}, {"a": "b", "b": "c", "c": "b"}):
            self.assert_told((cells, {}), False)
            self.assert_told((cells, {1: 1}), False)
        for values in ({1: 2}, {1: 2, 2: 3}, {1: 2, 2: 2}, {1: 1, 2: 1}, {1: 2, 2: 3, 3: 2}, {0: 10 ** 40}):
            self.assert_told(({}, values), False)
            self.assert_told(({"a": "a"}, values), False)

    def test_things_that_are_no_names(self):
        for thing in ("", "in", "from", "to", "end", "A", "a1", "abcdefghi", "a b", 1, None, True, ("a",)):
            self.assert_told(({thing: thing}, {}), False)
            self.assert_told(({"a": thing, thing: "a"}, {}), False)
        for thing in (["a"], {"a": "a"}):
            self.assert_told(({"a": thing}, {}), False)

    def test_things_that_are_no_whole_numbers(self):
        for thing in ("1", True, False, None, 1.0, 0.5, (1,), "a"):
            self.assert_told(({}, {thing: thing}), False)
            self.assert_told(({}, {7: thing, thing: 7}), False)
        for thing in ([1], {1: 1}):
            self.assert_told(({}, {1: thing}), False)
        # A truth is like a number for Python, and here none.
        self.assert_told(({}, {1: True}), False)
        self.assert_told(({}, {0: 1, 1: False}), False)

    def test_names_and_numbers_in_one_another_s_place(self):
        self.assert_told(({1: 2, 2: 1}, {}), False)
        self.assert_told(({}, {"a": "b", "b": "a"}), False)


class TurnedFillingsTest(unittest.TestCase):
    def test_ordinary(self):
        turning = round_of("a", "b", "c"), round_of(1, 2)
        self.assertEqual(turned_filling(turning, {"a": 1, "b": 2, "c": 3, "d": 1}), {"b": 2, "c": 1, "a": 3, "d": 2})
        self.assertEqual(turned_rooms(turning, {"a": (1, 3), "b": (2,), "c": (0, 1, 2), "d": (3, 4)}),
                         {"b": (2, 3), "c": (1,), "a": (0, 1, 2), "d": (3, 4)})

    def test_rooms_are_rising(self):
        turning = {}, round_of(1, 9, -4)
        self.assertEqual(turned_rooms(turning, {"a": (-4, 1, 2, 9), "b": (1, 2)}), {"a": (-4, 1, 2, 9), "b": (2, 9)})
        self.assertEqual(turned_rooms(({}, {1: 10, 10: 1, 2: 9, 9: 2}), {"a": (1, 2, 3)}), {"a": (3, 9, 10)})

    def test_names_and_values_that_stand_in_no_hall(self):
        turning = round_of("a", "zz"), round_of(1, 10 ** 40)
        self.assertEqual(turned_filling(turning, {"a": 1, "b": 5}), {"zz": 10 ** 40, "b": 5})
        self.assertEqual(turned_filling(turning, {"zz": 10 ** 40, "q": -(10 ** 50)}), {"a": 1, "q": -(10 ** 50)})
        self.assertEqual(turned_rooms(turning, {"a": (0, 1), "b": (1,)}), {"zz": (0, 10 ** 40), "b": (10 ** 40,)})

    def test_nothing_turned(self):
        self.assertEqual(turned_filling(STAYING, {"a": 1}), {"a": 1})
        self.assertEqual(turned_filling((round_of("a", "b"), round_of(1, 2)), {}), {})
        self.assertEqual(turned_rooms(STAYING, {"a": (1, 2)}), {"a": (1, 2)})

    def test_the_way_back(self):
        chance = random.Random(1001)
        for turn in range(200):
            turning = random_turning(chance, NAMES[:6], range(-3, 5))
            rooms = random_rooms(chance, "abcdx", 5)
            filling = {name: chance.choice(room) for name, room in rooms.items()}
            self.assertEqual(turned_filling(way_back(turning), turned_filling(turning, filling)), filling)
            self.assertEqual(turned_rooms(way_back(turning), turned_rooms(turning, rooms)), rooms)

    def test_new_dicts_and_what_is_handed_in_stays(self):
        handed = (round_of("a", "b"), round_of(1, 2)), {"a": 1, "b": 3}, {"a": (1, 2), "b": (3,)}
        before = copy.deepcopy(handed)
        for turning in (handed[0], STAYING):
            self.assertIsNot(turned_filling(turning, handed[1]), handed[1])
            self.assertIsNot(turned_rooms(turning, handed[2]), handed[2])
            turned_filling(turning, handed[1]).clear()
            turned_rooms(turning, handed[2]).clear()
        self.assertEqual(handed, before)


class TurnedWishTest(unittest.TestCase):
    def test_each_sort(self):
        turning = round_of("a", "b", "x"), round_of(1, 2, 3)
        expected = {
            "unlike": ("unlike", ("b", "x", "c")),
            "many": ("many", (2, 1), ("x", "b"), 1, 2),
            "sum": None,
            "table": ("table", ("x", "b"), ((2, 3), (3, 2), (-3, 1))),
            "way": ("way", ("b", "x"), ((0, 2, 1), (0, 3, 2), (1, 3, 2)), (2, 0)),
            "behind": None,
            "same": ("same", "c", (3, 2), ("unlike", ("x", "b"))),
        }
        for sort in SORTS:
            turned = turned_wish(turning, ORDINARY[sort])
            self.assertEqual(turned if turned is None else plain_form(turned), expected[sort] and plain_form(expected[sort]))

    def test_states_bounds_and_gaps_are_no_values(self):
        turning = {}, round_of(0, 1, 2)
        self.assertEqual(plain_form(turned_wish(turning, ("way", ("a",), ((0, 0, 1), (0, 2, 2)), (1, 0)))),
                         ("way", ("a",), ((0, 0, 2), (0, 1, 1)), (0, 1)))
        self.assertEqual(turned_wish(turning, ("many", (0,), ("a",), 1, 2)), ("many", (1,), ("a",), 1, 2))

    def test_sums_and_behinds(self):
        cells = round_of("a", "c")
        for values in ({}, {1: 1}, {value: value for value in range(-5, 5)}):
            self.assertEqual(turned_wish((cells, values), ORDINARY["sum"]), ("sum", ((2, "c"), (-3, "b")), -4, 5))
            self.assertEqual(turned_wish((cells, values), ORDINARY["behind"]), ("behind", ("a", "c", "b"), -1))
            self.assertEqual(turned_wish((cells, values), ("same", "a", (1,), ORDINARY["sum"][:1] + (((1, "b"),), 0, None))),
                             ("same", "c", (1,), ("sum", ((1, "b"),), 0, None)))
        for values in (round_of(1, 2), {1: 2, 2: 1, 5: 5}, round_of(10 ** 40, -7)):
            for wish in (ORDINARY["sum"], ORDINARY["behind"], ("behind", ("a",), 0)):
                self.assertIsNone(turned_wish((cells, values), wish))
                self.assertIsNone(turned_wish(({}, values), wish))
                self.assertIsNone(turned_wish((cells, values), ("same", "z", (1,), wish)))

    def test_none_just_there(self):
        for wish in sample_wishes():
            for turning in (STAYING, (round_of("a", "z"), {}), (round_of("a", "z"), {1: 1}), ({}, round_of(3, 7)), (round_of("a", "b"), round_of(3, 7))):
                inner = wish[3] if wish[0] == "same" else wish
                by_size = inner[0] in ("sum", "behind") and any(one != other for one, other in turning[1].items())
                turned = turned_wish(turning, wish)
                self.assertEqual(turned is None, by_size)
                self.assertTrue(by_size or is_wish(turned))

    def test_a_filling_keeps_it_just_where_the_filling_turned_keeps_the_wish_turned(self):
        chance = random.Random(1002)
        told = {True: 0, False: 0}
        sorts = set()
        for turn in range(400):
            wish = random_wish(chance, "abcd")
            turning = random_turning(chance, NAMES[:6], range(-3, 5))
            turned = turned_wish(turning, wish)
            if turned is not None:
                sorts.add(wish[0])
                self.assertEqual(plain_form(turned_wish(way_back(turning), turned)), plain_form(wish))
                for filling in every_filling(random_rooms(chance, "abcd", 3)):
                    kept = kept_by_the_words(wish, filling)
                    told[kept] += 1
                    self.assertIs(kept_by_the_words(turned, turned_filling(turning, filling)), kept)
        self.assertEqual(sorts, set(SORTS))
        self.assertGreater(min(told.values()), 500)


class PlainFormTest(unittest.TestCase):
    def test_each_sort(self):
        self.assertEqual(plain_form(("unlike", ("c", "a", "b"))), ("unlike", ("a", "b", "c")))
        self.assertEqual(plain_form(("many", (3, -1, 2), ("c", "a"), 5, 1)), ("many", (-1, 2, 3), ("a", "c"), 5, 1))
        self.assertEqual(plain_form(("sum", ((1, "c"), (-9, "d"), (7, "a")), None, 3)), ("sum", ((7, "a"), (1, "c"), (-9, "d")), None, 3))
        self.assertEqual(plain_form(("table", ("c", "a", "b"), ((3, 1, 2), (1, 2, 9), (0, 2, 8)))),
                         ("table", ("a", "b", "c"), ((1, 2, 3), (2, 8, 0), (2, 9, 1))))
        self.assertEqual(plain_form(("way", ("c", "a"), ((1, 5, 0), (0, 9, 1), (0, 2, 2)), (2, 0))),
                         ("way", ("c", "a"), ((0, 2, 2), (0, 9, 1), (1, 5, 0)), (0, 2)))
        self.assertEqual(plain_form(("behind", ("c", "a"), -2)), ("behind", ("c", "a"), -2))
        self.assertEqual(plain_form(("same", "z", (4, 1), ("unlike", ("b", "a")))), ("same", "z", (1, 4), ("unlike", ("a", "b"))))
        self.assertEqual(plain_form(("same", "b", (), ("behind", ("c", "a"), 1))), ("same", "b", (), ("behind", ("c", "a"), 1)))

    def test_without_rows_steps_or_values(self):
        self.assertEqual(plain_form(("table", ("b", "a"), ())), ("table", ("a", "b"), ()))
        self.assertEqual(plain_form(("way", ("b", "a"), (), ())), ("way", ("b", "a"), (), ()))
        self.assertEqual(plain_form(("many", (), ("b", "a"), 0, 0)), ("many", (), ("a", "b"), 0, 0))

    def test_of_a_wish_in_another_order_the_same(self):
        chance = random.Random(1003)
        for wish in sample_wishes() + [random_wish(chance, "abcde") for turn in range(200)]:
            plain = plain_form(wish)
            self.assertEqual(plain_form(plain), plain)
            for turn in range(3):
                self.assertEqual(plain_form(told_otherwise(chance, wish)), plain)

    def test_wishes_with_one_plain_form_are_kept_in_the_same_fillings(self):
        chance = random.Random(1004)
        for turn in range(120):
            wish = random_wish(chance, "abc")
            for filling in every_filling(random_rooms(chance, "abc", 3)):
                self.assertIs(kept_by_the_words(plain_form(wish), filling), kept_by_the_words(wish, filling))

    def test_others_have_another_plain_form(self):
        for one, other in ((("behind", ("a", "b"), 1), ("behind", ("b", "a"), 1)),
                           (("way", ("a", "b"), ((0, 1, 0),), (0,)), ("way", ("b", "a"), ((0, 1, 0),), (0,))),
                           (("table", ("a", "b"), ((1, 2),)), ("table", ("a", "b"), ((2, 1),))),
                           (("sum", ((1, "a"), (2, "b")), 0, 1), ("sum", ((2, "a"), (1, "b")), 0, 1))):
            self.assertNotEqual(plain_form(one), plain_form(other))


def leads_on_by_the_words(hall, turning):
    """Point 21 once more."""
    cells, rooms = turning[0], dict(hall[0])
    if any(name not in rooms for name in cells):
        return False
    if any(tuple(sorted(turning[1].get(value, value) for value in room)) != rooms[cells.get(name, name)] for name, room in rooms.items()):
        return False
    turned = [turned_wish(turning, wish) for wish in hall[1]]
    return None not in turned and sorted(str(plain_form(wish)) for wish in turned) == sorted(str(plain_form(wish)) for wish in hall[1])


class LeadsOnTest(unittest.TestCase):
    def assert_told(self, hall, turning, expected):
        self.assertIs(leads_on(hall, turning), expected, (hall, turning))

    def test_the_turning_of_no_things(self):
        chance = random.Random(1005)
        for turn in range(50):
            hall = tuple(random_rooms(chance, "abcd", 3).items()), tuple(random_wish(chance, "abcd") for time in range(turn % 5))
            self.assert_told(hall, STAYING, True)
            self.assert_told(hall, ({"a": "a"}, {3: 3, 90: 90}), True)
            self.assert_told(hall, ({"zz": "zz"}, {}), False)

    def test_the_hall_without_cells(self):
        self.assert_told(((), ()), STAYING, True)
        self.assert_told(((), ()), ({}, round_of(1, 2)), True)
        self.assert_told(((), ()), ({"a": "a"}, {}), False)

    def test_a_key_that_is_no_cell(self):
        hall = pairs_hall("abc", (1, 2, 3))
        self.assert_told(hall, (round_of("a", "b"), {}), True)
        self.assert_told(hall, (dict(round_of("a", "b"), z="z"), {}), False)
        self.assert_told(hall, (round_of("a", "b", "d"), {}), False)
        self.assert_told(hall, (round_of("y", "z"), {}), False)

    def test_rooms_that_are_others(self):
        cells = (("a", (1, 2)), ("b", (1, 2)), ("c", (1, 3)), ("d", (2, 3)))
        for turning, expected in (((round_of("a", "b"), {}), True), ((round_of("a", "c"), {}), False), ((round_of("c", "d"), {}), False),
                                  ((round_of("c", "d"), round_of(1, 2)), True), (({}, round_of(1, 2)), False), (({}, round_of(5, 6)), True),
                                  ((round_of("a", "c"), round_of(2, 3)), False), ((round_of("a", "b"), round_of(7, 8)), True)):
            self.assert_told((cells, ()), turning, expected)

    def test_a_wish_without_a_turned_one(self):
        cells = tuple((name, (1, 2)) for name in "abc")
        for wish in (("behind", ("a", "b"), -9), ("sum", ((1, "a"), (1, "b")), 3, 3), ("same", "c", (1, 2), ("behind", ("a",), 0))):
            self.assert_told((cells, (wish,)), ({}, round_of(1, 2)), False)
            self.assert_told((cells, (wish,)), ({}, {1: 1, 2: 2}), True)
            self.assert_told((cells, (wish,)), ({}, round_of(8, 9)), False)
        self.assert_told((cells, (("sum", ((1, "a"), (1, "b")), 3, 3),)), (round_of("a", "b"), {}), True)
        self.assert_told((cells, (("sum", ((1, "a"), (2, "b")), 3, 3),)), (round_of("a", "b"), {}), False)
        self.assert_told((cells, (("behind", ("a", "b"), 0),)), (round_of("a", "b"), {}), False)

    def test_a_wish_less_more_or_twice(self):
        cells, wishes = ring_hall("abcd", (1, 2, 3))
        turning = round_of("a", "b", "c", "d"), {}
        self.assert_told((cells, wishes), turning, True)
        for place in range(4):
            self.assert_told((cells, wishes[:place] + wishes[place + 1:]), turning, False)
            self.assert_told((cells, wishes + (wishes[place],)), turning, False)
            self.assert_told((cells, wishes[:place] + (wishes[place - 1],) + wishes[place + 1:]), turning, False)
        self.assert_told((cells, wishes + wishes), turning, True)
        self.assert_told((cells, wishes + (("unlike", ("c", "a")),)), turning, False)
        self.assert_told((cells, wishes + (("unlike", ("c", "a")), ("unlike", ("b", "d")))), turning, True)

    def test_one_twice_and_another_once(self):
        cells = tuple((name, (1, 2)) for name in "abcd")
        one, other = ("table", ("a", "b"), ((1, 2),)), ("table", ("c", "d"), ((1, 2),))
        turning = {"a": "c", "c": "a", "b": "d", "d": "b"}, {}
        self.assert_told((cells, (one, other)), turning, True)
        self.assert_told((cells, (one, one, other)), turning, False)
        self.assert_told((cells, (one, one, other, other)), turning, True)
        self.assert_told((cells, (one, ("table", ("d", "c"), ((2, 1),)))), turning, True)

    def test_bounds_with_and_without_numbers_side_by_side(self):
        cells = tuple((name, (1, 2)) for name in "ab")
        wishes = (("sum", ((1, "a"),), None, 1), ("sum", ((1, "a"),), 0, 1), ("sum", ((1, "b"),), 0, 1), ("sum", ((1, "b"),), None, 1))
        self.assert_told((cells, wishes), (round_of("a", "b"), {}), True)
        self.assert_told((cells, wishes[:3]), (round_of("a", "b"), {}), False)

    def test_twelve_cells_all_unlike_and_forty_cells(self):
        hall = tuple((name, TEN) for name in NAMES[:12]), (("unlike", NAMES[:12]),)
        self.assert_told(hall, (round_of(*NAMES[:12]), round_of(*TEN)), True)
        self.assert_told(hall, (round_of(*NAMES[:13]), {}), False)
        forty = tuple((name, TEN) for name in FORTY), tuple(("unlike", pair) for pair in zip(FORTY, FORTY[1:] + FORTY[:1]))
        self.assert_told(forty, (round_of(*FORTY), round_of(*TEN)), True)
        self.assert_told(forty, (dict(zip(FORTY, FORTY[::-1])), {}), True)
        self.assert_told(forty, (round_of(*FORTY[1:]), {}), False)

    def symmetric_halls(self, seed, count):
        """Halls made alike by turnings: each wish with all that it is led to."""
        chance = random.Random(seed)
        for turn in range(count):
            turning = random_turning(chance, NAMES[:5], (-1, 0, 2))
            wishes = []
            for time in range(chance.randint(1, 2)):
                wish = loose_wish(chance, NAMES[:5], (-1, 0, 2))
                while wish is not None and plain_form(wish) not in [plain_form(other) for other in wishes]:
                    wishes.append(wish)
                    wish = turned_wish(turning, wish)
            yield chance, (tuple((name, (-1, 0, 2)) for name in NAMES[:5]), tuple(wishes)), turning

    def test_where_it_is_so_fillings_are_led_to_fillings_no_two_to_one(self):
        told = {True: 0, False: 0}
        for chance, hall, turning in self.symmetric_halls(1006, 120):
            expected = leads_on_by_the_words(hall, turning)
            self.assert_told(hall, turning, expected)
            self.assert_told(hall, way_back(turning), expected)
            told[expected] += 1
            if expected:
                fillings = fillings_of(hall)
                turned = [turned_filling(turning, filling) for filling in fillings]
                self.assertEqual(sorted(sorted(filling.items()) for filling in turned), sorted(sorted(filling.items()) for filling in fillings))
            other = random_turning(chance, NAMES[:5], (-1, 0, 2))
            self.assert_told(hall, other, leads_on_by_the_words(hall, other))
        self.assertGreater(min(told.values()), 10)

    def test_a_turning_behind_a_turning(self):
        cells, wishes = ring_hall("abcdef", (1, 2, 3))
        one, other = (round_of(*"abcdef"), round_of(1, 2, 3)), (dict(zip("abcdef", "fedcba")), round_of(1, 2))
        both = ({name: other[0][one[0][name]] for name in "abcdef"}, {value: other[1].get(one[1][value], one[1][value]) for value in (1, 2, 3)})
        for turning in (one, other, both):
            self.assertTrue(is_turning(turning))
            self.assert_told((cells, wishes), turning, True)
        filling = {"a": 1, "b": 2, "c": 1, "d": 3, "e": 2, "f": 3}
        self.assertEqual(turned_filling(other, turned_filling(one, filling)), turned_filling(both, filling))
        for wish in wishes:
            self.assertEqual(plain_form(turned_wish(other, turned_wish(one, wish))), plain_form(turned_wish(both, wish)))

    def test_what_was_asked_before_changes_nothing(self):
        hall = pairs_hall("abc", (1, 2, 3))
        turning = round_of("a", "b"), round_of(1, 2)
        before = copy.deepcopy((hall, turning))
        for turn in range(2):
            self.assert_told(hall, turning, True)
            self.assert_told((hall[0], hall[1][:2]), turning, False)
        self.assertEqual((hall, turning), before)
