import copy
import random
import unittest

from helper import GREATEST, LEAST, NAMES, ORDINARY, ROW_WORDS, WORDY, random_wish, sample_wishes
from seekhall.reader import read_hall, read_wish
from seekhall.writer import show_hall, show_wish

SHOWN = (
    (("unlike", ("a",)), "unlike a"),
    (("unlike", ("b", "a", "abcdefgh")), "unlike b a abcdefgh"),
    (("many", (1, -2, 0), ("a", "b"), 0, 2), "many 1 -2 0 in a b from 0 to 2"),
    (("many", (), ("a",), 3, 1), "many in a from 3 to 1"),
    (("sum", ((2, "a"),), -1, 5), "sum 2 a from -1 to 5"),
    (("sum", ((2, "a"), (-3, "b")), None, 0), "sum 2 a -3 b from _ to 0"),
    (("sum", ((2, "a"), (-3, "b")), 0, None), "sum 2 a -3 b from 0 to _"),
    (("sum", ((1, "a"),), None, None), "sum 1 a from _ to _"),
    (("sum", ((1, "a"),), -(10 ** 13), 10 ** 13), "sum 1 a from -10000000000000 to 10000000000000"),
    (("table", ("a", "b"), ((1, 2), (-3, 4), (0, 0))), "table a b : 1 2 ; -3 4 ; 0 0"),
    (("table", ("a",), ((0,),)), "table a : 0"),
    (("table", ("a", "b"), ()), "table a b :"),
    (("way", ("a", "b"), ((0, -5, 1), (1, 2, 0)), (0, 1)), "way a b : 0 -5 1 ; 1 2 0 end 0 1"),
    (("way", ("a",), ((0, 1, 0),), ()), "way a : 0 1 0 end"),
    (("way", ("a",), (), (3,)), "way a : end 3"),
    (("way", ("a",), (), ()), "way a : end"),
    (("behind", ("a", "b"), -3), "behind -3 a b"),
    (("behind", ("a",), 0), "behind 0 a"),
    (("same", "c", (2, 1), ("unlike", ("a", "b"))), "same c 2 1 : unlike a b"),
    (("same", "c", (), ("many", (), ("a",), 0, 1)), "same c : many in a from 0 to 1"),
    (("same", "c", (1,), ("table", ("a",), ((1,), (2,)))), "same c 1 : table a : 1 ; 2"),
    (("same", "c", (), ("table", ("a",), ())), "same c : table a :"),
    (("same", "c", (), ("way", ("a",), (), ())), "same c : way a : end"),
    (("same", "c", (-7,), ("sum", ((1, "a"),), None, 2)), "same c -7 : sum 1 a from _ to 2"),
    (("same", "same", (1,), ("table", ("table", "cell"), ())), "same same 1 : table table cell :"),
)

ANY_SIGNS = "".join(chr(code) for code in range(32, 127))


def random_wishes(count):
    chance = random.Random(6)
    return [random_wish(chance, ("a", "b", "c", "d", "same")) for turn in range(count)]


class ShowWishTest(unittest.TestCase):
    def test_word_by_word(self):
        for wish, text in SHOWN:
            self.assertEqual(show_wish(wish), text)

    def test_greatest_bounds(self):
        self.assertEqual(show_wish(GREATEST["behind"]), "behind 1000000000 a b c d e f g h i j k l")
        shown = show_wish(GREATEST["many"])
        self.assertTrue(shown.startswith("many 1000000 999999 "))
        self.assertTrue(shown.endswith(" in a b c d e f g h i j k l from 1000000000 to 1000000000"))

    def test_read_again_it_is_the_same(self):
        for wish in sample_wishes() + [wish for wish, text in SHOWN] + random_wishes(500):
            self.assertEqual(read_wish(show_wish(wish)), wish)

    def test_read_with_more_blanks_and_remarks(self):
        for wish in sample_wishes() + random_wishes(100):
            text = show_wish(wish)
            for changed in (text.replace(" ", "  "), text.replace(" ", "   "), "   " + text, text + "  ", "  " + text + " ",
                            text + "#", text + " # " + ANY_SIGNS, text + "#" + text, "  " + text.replace(" ", "   ") + " #:;"):
                self.assertEqual(read_wish(changed), wish)

    def test_words_are_parted_by_one_blank(self):
        for wish in sample_wishes() + random_wishes(100):
            text = show_wish(wish)
            self.assertEqual(text, " ".join(text.split()))

    def test_sames_far_within_sames_as_they_were_read(self):
        text = "same a : " * 880 + "unlike b"
        self.assertEqual(show_wish(read_wish(text)), text)

    def test_wishes_stay(self):
        for wish in sample_wishes():
            before = copy.deepcopy(wish)
            text = show_wish(wish)
            self.assertEqual(wish, before)
            self.assertEqual(show_wish(wish), text)


class ShowHallTest(unittest.TestCase):
    def assert_comes_back(self, hall):
        text = show_hall(hall)
        self.assertEqual(read_hall(text), hall)
        self.assertEqual(show_hall(read_hall(text)), text)

    def test_rows_in_order(self):
        hall = ((("b", (-1, 0, 2)), ("a", (1,))), (("unlike", ("a", "b")), ("behind", ("b",), 2), ("unlike", ("a",))))
        self.assertEqual(show_hall(hall), "cell b -1 0 2\ncell a 1\nunlike a b\nbehind 2 b\nunlike a")

    def test_cells_alone(self):
        self.assertEqual(show_hall(((("a", (1, 2)),), ())), "cell a 1 2")

    def test_hall_of_nothing(self):
        self.assertEqual(show_hall(((), ())), "")
        self.assert_comes_back(((), ()))

    def test_each_hall_comes_back(self):
        cells = tuple((name, tuple(range(number % 10 + 1))) for number, name in enumerate(NAMES))
        for group in (ORDINARY, GREATEST, LEAST):
            self.assert_comes_back((cells, tuple(group.values())))
            for wish in group.values():
                self.assert_comes_back((cells, (wish,)))

    def test_cells_called_like_words(self):
        cells = tuple((word, (1, 2)) for word in ROW_WORDS)
        self.assert_comes_back((cells, tuple(WORDY.values())))
        self.assert_comes_back((cells[::-1], (("unlike", ROW_WORDS),)))

    def test_greatest_hall(self):
        names = ["abcdef" + first + second for first in "abcdefgh" for second in "abcde"]
        cells = tuple((name, tuple(range(-(10 ** 6), 10 - 10 ** 6))) for name in names)
        rows = tuple((-(10 ** 6) + row,) * 12 for row in range(60))
        hall = (cells, tuple(("table", tuple(names[at % 28:at % 28 + 12]), rows) for at in range(40)))
        self.assertGreater(len(show_hall(hall)), 8000)
        self.assert_comes_back(hall)

    def test_random_halls(self):
        cells = tuple((name, (-2, 3)) for name in ("a", "b", "c", "d", "same"))
        for turn in range(20):
            self.assert_comes_back((cells, tuple(random_wishes(40)[turn:turn + 20])))

    def test_what_was_written_otherwise_is_written_so(self):
        text = "\n unlike  a b # x\n\ncell a 1\n#\ncell   b 2 3\n"
        self.assertEqual(show_hall(read_hall(text)), "cell a 1\ncell b 2 3\nunlike a b")

    def test_halls_stay(self):
        hall = (tuple((name, (0, 1)) for name in NAMES), tuple(ORDINARY.values()))
        before = copy.deepcopy(hall)
        show_hall(hall)
        self.assertEqual(hall, before)
