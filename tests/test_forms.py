import copy
import unittest

from helper import FAR, GREATEST, LEAST, NAMES, ORDINARY, WORDY, sample_wishes
from seekhall.forms import cells_of, is_name, is_value, is_wish

OTHERS = (None, True, False, (), ("a",), ("unlike",), 0, 10 ** 400, -(10 ** 400), "", "alike", ((),), (None, None))
# These are right in no place of any wish.
NEVER_RIGHT = (True, False, "", "IN", 10 ** 400, -(10 ** 400), ((),), (None, None), (True,), ("A", "B"))


def spoilt(wish, place, thing):
    return wish[:place] + (thing,) + wish[place + 1:]


class NamesTest(unittest.TestCase):
    def test_names(self):
        for name in ("a", "z", "abcdefgh", "zzzzzzzz", "i", "inn", "ends", "fro", "t", "cell", "same", "none", "too"):
            self.assertIs(is_name(name), True, name)

    def test_no_names(self):
        for name in ("", "abcdefghi", "in", "from", "to", "end", "A", "aB", "a1", "a b", " a", "a ", "a_", "a-b", "a\n",
                     "\u00e9", "\u00df", "\u0430", "a\u0301", "`", "{", "#", ":", ";", "1", "a" * 9000):
            self.assertIs(is_name(name), False, name[:20])

    def test_what_is_no_text_is_no_name(self):
        for thing in (None, True, False, 0, 7, ("a",), ("a", "b"), (), 10 ** 100):
            self.assertIs(is_name(thing), False, thing)


class ValuesTest(unittest.TestCase):
    def test_values_to_their_bounds(self):
        for number in (0, 1, -1, 20, FAR, -FAR, FAR - 1, 1 - FAR):
            self.assertIs(is_value(number), True, number)

    def test_numbers_beyond(self):
        for number in (FAR + 1, -FAR - 1, 10 ** 9, 10 ** 13, 10 ** 400, -(10 ** 400)):
            self.assertIs(is_value(number), False)

    def test_what_is_no_whole_number(self):
        for thing in (None, True, False, "1", "", (1,), ()):
            self.assertIs(is_value(thing), False, thing)


class WishesTest(unittest.TestCase):
    def assert_no_wish(self, thing):
        self.assertIs(is_wish(thing), False, thing)

    def test_wishes_of_all_sorts_to_the_bounds(self):
        for wish in sample_wishes():
            self.assertIs(is_wish(wish), True, wish)

    def test_low_above_high_is_let_by(self):
        self.assertIs(is_wish(("many", (1,), ("a",), 2, 1)), True)
        self.assertIs(is_wish(("sum", ((1, "a"),), 10 ** 13, -(10 ** 13))), True)

    def test_other_bounds(self):
        self.assertIs(is_wish(("behind", ("a", "b"), -(10 ** 9))), True)
        self.assertIs(is_wish(("many", (-FAR,), ("a",), 0, 10 ** 9)), True)
        self.assertIs(is_wish(("sum", ((-FAR, "a"),), -(10 ** 13), None)), True)
        self.assertIs(is_wish(("sum", ((1, "a"),), None, 10 ** 13)), True)
        self.assertIs(is_wish(("way", ("a",), ((20, FAR, 20), (0, -FAR, 0)), (20,))), True)

    def test_what_is_made_of_two_unlike_things_may_share_one(self):
        self.assertIs(is_wish(("sum", ((3, "a"), (3, "b")), 0, 0)), True)
        self.assertIs(is_wish(("way", ("a",), ((0, 1, 2), (0, 2, 2), (1, 1, 2)), (2,))), True)
        self.assertIs(is_wish(("table", ("a", "b"), ((1, 1), (1, 2), (2, 1)))), True)

    def test_same_of_each_sort_within_the_bounds(self):
        for group in (ORDINARY, GREATEST, LEAST, WORDY):
            for sort, wish in group.items():
                self.assertIs(is_wish(("same", "q", (1,), wish)), sort != "same", wish)

    def test_anything_else_is_no_wish(self):
        for thing in OTHERS:
            self.assert_no_wish(thing)
            self.assert_no_wish((thing,))
            self.assert_no_wish((thing, ("a", "b")))
        self.assert_no_wish([1])
        self.assert_no_wish(["unlike", ("a", "b")])
        self.assert_no_wish(("Unlike", ("a", "b")))
        self.assert_no_wish(("unlike ", ("a", "b")))
        self.assert_no_wish((("unlike", ("a", "b")),))

    def test_each_thing_replaced_by_another_kind(self):
        for wish in sample_wishes():
            for place in range(len(wish)):
                for thing in NEVER_RIGHT:
                    self.assert_no_wish(spoilt(wish, place, thing))

    def test_a_thing_too_few_or_too_many(self):
        for wish in sample_wishes():
            self.assert_no_wish(wish[:-1])
            for thing in OTHERS:
                self.assert_no_wish(wish + (thing,))

    def test_the_word_of_another_sort(self):
        for group in (ORDINARY, GREATEST):
            for sort, wish in group.items():
                for other in group:
                    if other != sort:
                        self.assert_no_wish((other,) + wish[1:])
        # A table and a behind, a way and a same have as many things: none is taken for the other.
        self.assert_no_wish(("table", ("a", "b"), 1))
        self.assert_no_wish(("behind", ("a", "b"), ()))

    def test_cells_spoilt(self):
        spoilers = [(), ("a", "a"), ("a", "b", "a"), ("in",), ("a", "B"), ("a", 1), ("a", None), ("a", True), ("a", ("b",)),
                    NAMES[:13], "ab", "a", None, 1, True, ["a", "b"]]
        for cells in spoilers:
            self.assert_no_wish(("unlike", cells))
            self.assert_no_wish(("many", (1,), cells, 0, 1))
            self.assert_no_wish(("table", cells, ()))
            self.assert_no_wish(("way", cells, (), ()))
            self.assert_no_wish(("behind", cells, 0))
            self.assert_no_wish(("same", "z", (1,), ("unlike", cells)))

    def test_values_spoilt(self):
        spoilers = [(1, 1), (1, 2, 1), (FAR + 1,), (-FAR - 1,), (1, True), (False,), (None,), ("1",), ((1,),),
                    tuple(range(61)), None, 1, True, "", "12", [1]]
        for values in spoilers:
            self.assert_no_wish(("many", values, ("a",), 0, 1))
            self.assert_no_wish(("same", "z", values, ("unlike", ("a",))))

    def test_bounds_of_many_spoilt(self):
        for bound in (-1, 10 ** 9 + 1, True, False, None, "1", (1,), ()):
            self.assert_no_wish(("many", (1,), ("a",), bound, 1))
            self.assert_no_wish(("many", (1,), ("a",), 0, bound))

    def test_bounds_of_sum_spoilt(self):
        for bound in (10 ** 13 + 1, -(10 ** 13) - 1, True, False, "_", "1", (1,), ()):
            self.assert_no_wish(("sum", ((1, "a"),), bound, None))
            self.assert_no_wish(("sum", ((1, "a"),), None, bound))

    def test_terms_spoilt(self):
        spoilers = [(), ((0, "a"),), ((1, "a"), (0, "b")), ((1, "a"), (2, "a")), ((1, "a"), (1, "a")), ((FAR + 1, "a"),),
                    ((-FAR - 1, "a"),), ((True, "a"),), ((None, "a"),), (("1", "a"),), ((1, "to"),), ((1, 2),), ((1, None),),
                    (("a", 1),), ((1,),), ((1, "a", "b"),), ("ab",), (1, "a"), None, 1, "1a", [(1, "a")],
                    tuple((1, name) for name in NAMES[:7])]
        for terms in spoilers:
            self.assert_no_wish(("sum", terms, 0, 1))

    def test_rows_spoilt(self):
        spoilers = [((1,),), ((1, 2, 3),), ((1, 2), (3,)), ((),), ((1, 2), (1, 2)), ((1, 2), (2, 1), (1, 2)), ((1, FAR + 1),),
                    ((-FAR - 1, 1),), ((1, True),), ((1, None),), ((1, "2"),), ("12",), (1, 2), None, 1, "", [(1, 2)],
                    ([1, 2],), tuple((row, row) for row in range(61))]
        for rows in spoilers:
            self.assert_no_wish(("table", ("a", "b"), rows))

    def test_steps_spoilt(self):
        spoilers = [((0, 1, 21),), ((21, 1, 0),), ((-1, 1, 0),), ((0, 1, -1),), ((0, FAR + 1, 0),), ((0, -FAR - 1, 0),),
                    ((True, 1, 0),), ((0, True, 0),), ((0, 1, False),), ((None, 1, 0),), ((0, None, 0),), ((0, 1, None),),
                    ((0, 1),), ((0, 1, 0, 0),), ((),), (0, 1, 0), ("010",), ((0, 1, 0), (0, 1, 1)), ((0, 1, 0), (0, 1, 0)),
                    None, 1, "", [(0, 1, 0)], tuple((step % 20, step, 0) for step in range(61))]
        for steps in spoilers:
            self.assert_no_wish(("way", ("a", "b"), steps, (0,)))

    def test_ends_spoilt(self):
        for ends in [(21,), (-1,), (0, 0), (1, 2, 1), (True,), (0, False), (None,), ("0",), ((0,),), None, 0, "", [0],
                     tuple(range(22))]:
            self.assert_no_wish(("way", ("a", "b"), ((0, 1, 0),), ends))

    def test_gap_spoilt(self):
        for gap in (10 ** 9 + 1, -(10 ** 9) - 1, True, False, None, "1", (1,), ()):
            self.assert_no_wish(("behind", ("a", "b"), gap))

    def test_same_spoilt(self):
        plain = ("unlike", ("a", "b"))
        for cell in ("a", "b", "in", "Z", "", None, True, 1, ("z",), "abcdefghi"):
            self.assert_no_wish(("same", cell, (1,), plain))
        for wish in (("same", "y", (1,), plain), ("unlike", ()), ("unlike", ("a", "a")), "unlike", None, (), True,
                     ("cell", "a", (1,))):
            self.assert_no_wish(("same", "z", (1,), wish))

    def test_same_of_a_cell_that_stands_in_its_wish(self):
        for sort, wish in ORDINARY.items():
            if sort != "same":
                for cell in cells_of(wish):
                    self.assert_no_wish(("same", cell, (1,), wish))

    def test_same_far_within_same(self):
        wish = ("unlike", ("a",))
        for turn in range(5000):
            wish = ("same", "z", (), wish)
        self.assert_no_wish(wish)

    def test_tuples_far_within_tuples(self):
        deep = ()
        for turn in range(5000):
            deep = (deep,)
        for thing in (deep, (deep, deep), ("unlike", deep), ("unlike", (deep,)), ("many", deep, ("a",), 0, 1),
                      ("same", deep, (), ("unlike", ("a",))), ("same", "a", (), deep), ("table", ("a",), (deep,))):
            self.assertIs(is_wish(thing), False)
        self.assertIs(is_name(deep), False)
        self.assertIs(is_value(deep), False)


class CellsTest(unittest.TestCase):
    def test_cells_of_each_sort_in_their_order(self):
        told = {"unlike": ("a", "b", "c"), "many": ("b", "a"), "sum": ("a", "b"), "table": ("b", "a"), "way": ("a", "b"),
                "behind": ("c", "a", "b"), "same": ("c", "b", "a")}
        for sort, wish in ORDINARY.items():
            self.assertEqual(cells_of(wish), told[sort])
            self.assertIsInstance(cells_of(wish), tuple)

    def test_cells_of_the_greatest(self):
        for sort, wish in GREATEST.items():
            told = {"sum": NAMES[:6], "same": ("z",) + NAMES[:12]}
            self.assertEqual(cells_of(wish), told.get(sort, NAMES[:12]))

    def test_of_same_its_own_first_with_each_sort(self):
        for sort, wish in ORDINARY.items():
            if sort != "same":
                self.assertEqual(cells_of(("same", "zz", (1,), wish)), ("zz",) + cells_of(wish))

    def test_cells_called_like_words(self):
        self.assertEqual(cells_of(WORDY["same"]), ("same", "table", "cell"))
        self.assertEqual(cells_of(WORDY["sum"]), ("sum", "table"))

    def test_wishes_stay(self):
        for wish in sample_wishes():
            kept = copy.deepcopy(wish)
            is_wish(wish)
            cells_of(wish)
            self.assertEqual(wish, kept)
