import random
import unittest

from helper import FAR, HallTestCase, fillings_of, pairs_hall, raised, small_halls, wide_hall
from seekhall.bests import best_of
from seekhall.counter import counted
from seekhall.desk import answer
from seekhall.errors import HallError, NoHall, NoRow, NoText
from seekhall.leasts import lessened
from seekhall.lefts import what_is_left
from seekhall.nones import check_none
from seekhall.seeker import seek
from seekhall.swaps import cell_swaps, value_swaps
from seekhall.writer import show_hall

TEXT = "cell b 1 2\ncell a 2 3 4\nunlike a b\n\nsum 1 a 1 b from _ to 5  # a remark\n"
NONE = "cell a 1 2\ncell b 1 2\ncell c 1 2\nunlike a b\nunlike a c\nunlike b c"


def filling_told(hall, filling):
    return "".join(f" {name}={filling[name]}" for name, room in hall[0])


def told_by_the_functions(hall, question):
    """Point 27 once more, by what the other functions tell."""
    words = question.split(" ")
    if words[0] == "seek":
        word, thing = seek(hall)
        return f"none {len(thing)}" if word == "none" else "fits" + filling_told(hall, thing)
    if words[0] == "count":
        return f"{counted(hall)[0]}"
    if words[0] == "best":
        found = best_of(hall, tuple((int(factor), cell) for factor, cell in zip(words[1::2], words[2::2])))
        return "none" if found[0] == "none" else f"best {found[2]}" + filling_told(hall, found[1])
    if words[0] == "left":
        return " ".join(str(value) for value in what_is_left(hall)[words[1]])
    if words[0] == "least":
        found = lessened(hall)
        return "fits" if found[0] == "fits" else "least" + "".join(f" {number}" for number in found[1])
    return f"{len(cell_swaps(hall))} {len(value_swaps(hall))}"


class AnswersTest(HallTestCase):
    def assert_answer(self, text, question, expected):
        told = answer(text, question)
        self.assertIsInstance(told, str)
        self.assertEqual(told, expected)

    def test_each_question(self):
        for question, expected in (("count", "4"), ("best 1 a", "best 4 b=1 a=4"), ("best -2 a 10 b", "best 14 b=2 a=3"), ("left a", "2 3 4"),
                                   ("left b", "1 2"), ("least", "fits"), ("swaps", "0 0"), ("best -1000000 b", "best -1000000 b=1 a=")):
            if expected.endswith("="):
                self.assertTrue(answer(TEXT, question).startswith(expected))
            else:
                self.assert_answer(TEXT, question, expected)
        word, first, second = answer(TEXT, "seek").split(" ")
        self.assertEqual((word, first[:2], second[:2]), ("fits", "b=", "a="))

    def test_each_question_where_there_is_no_filling(self):
        for question, expected in (("count", "0"), ("best 1 a", "none"), ("left a", ""), ("left c", ""), ("least", "least 0 1 2"), ("swaps", "3 1")):
            self.assert_answer(NONE, question, expected)
        hall = pairs_hall("abc", (1, 2))
        self.assertTrue(check_none(hall, seek(hall)[1]))
        self.assert_answer(NONE, "seek", f"none {len(seek(hall)[1])}")

    def test_values_below_nought_and_rows_in_any_order(self):
        text = "behind 3 c a b\ncell a 1 2 3 7\n\ncell b -1000000 9 10\n  cell   c   -3 4 # far\ntable b : 9 ; -1000000 ; 4"
        for question, expected in (("count", "3"), ("best 1 a", "best 3 a=3 b=9 c=-3"), ("best -1 a 1 b", "best 8 a=1 b=9 c=-3"), ("left c", "-3"),
                                   ("left a", "1 2 3"), ("left b", "9"), ("best 7 c -5 a", "best -26 a=1 b=9 c=-3"), ("least", "fits"), ("swaps", "0 0")):
            self.assert_answer(text, question, expected)
        self.assertIn(answer(text, "seek"), [f"fits a={value} b=9 c=-3" for value in (1, 2, 3)])

    def test_cells_of_one_value(self):
        self.assert_answer("cell a 5\ncell b -2", "seek", "fits a=5 b=-2")
        self.assert_answer("cell a 5\ncell b -2", "best 3 b -1 a", "best -11 a=5 b=-2")

    def test_the_hall_of_nothing(self):
        for text in ("", "\n\n", "  # nothing", " "):
            for question, expected in (("seek", "fits"), ("count", "1"), ("least", "fits"), ("swaps", "0 0")):
                self.assert_answer(text, question, expected)

    def test_cells_called_like_the_words_of_questions(self):
        text = "cell seek 1 2\ncell best 1 2 3\ncell left 5\ncell count 0\ncell least 1\ncell swaps 2\nbehind 1 seek best"
        for question, expected in (("left left", "5"), ("left seek", "1 2"), ("left best", "2 3"), ("best 1 best", "best 3 seek="), ("count", "3"),
                                   ("best -1 best 1 left", "best 3 seek=1 best=2 left=5 count=0 least=1 swaps=2"), ("left swaps", "2"), ("least", "fits")):
            self.assertTrue(answer(text, question).startswith(expected), question)

    def test_as_the_other_functions_tell_it(self):
        chance = random.Random(1301)
        for hall, fillings in small_halls(1302, 80):
            names = [name for name, room in hall[0]]
            terms = " ".join(f"{chance.choice((-FAR, -1, 1, 2, FAR))} {name}" for name in chance.sample(names, chance.randint(1, len(names))))
            for question in ("seek", "count", "least", "swaps", "left " + chance.choice(names), "best " + terms):
                self.assert_answer(show_hall(hall), question, told_by_the_functions(hall, question))
            self.assert_answer(show_hall(hall), "count", str(len(fillings)))

    def test_forty_cells(self):
        for seed in range(3):
            hall = wide_hall(random.Random(9600 + seed), seed % 2)[0]
            text = show_hall(hall)
            names = [name for name, room in hall[0]]
            for question in ("seek", "count", "least", "swaps", "left " + names[0], "best 3 " + names[5]):
                self.assert_answer(text, question, told_by_the_functions(hall, question))

    def test_the_answer_doesn_t_hang_on_what_was_asked_before(self):
        first = [answer(TEXT, question) for question in ("seek", "best 1 a", "least", "swaps")]
        answer(NONE, "seek")
        raised(HallError, answer, TEXT, "left z")
        self.assertEqual([answer(TEXT, question) for question in ("seek", "best 1 a", "least", "swaps")], first)


class RefusalsTest(unittest.TestCase):
    def assert_no_row(self, text, question):
        refusal = raised(HallError, answer, text, question)
        self.assertIsInstance(refusal, NoRow, question)
        self.assertEqual(refusal.text, question)

    def assert_never(self, question):
        """Refused ahead of whatever the text is."""
        for text in (TEXT, "", "no row", "cell a 1 1"):
            self.assert_no_row(text, question)

    def test_words_of_no_question(self):
        for question in ("", " ", "seeks", "Seek", "SEEK", "find", "cell a", "sum 1 a", "counts", "bests 1 a", "lefts a", "swap", "fits", "none", "#", "seek#"):
            self.assert_never(question)

    def test_a_blank_more_or_less(self):
        for question in ("seek", "count", "least", "swaps", "left a", "best 1 a", "best 1 a 2 b"):
            self.assertIsInstance(answer(TEXT, question), str)
            for spoilt in (" " + question, question + " ", question.replace(" ", "  "), question.replace(" ", ""), question.replace(" ", "\t"), question + "\n",
                           "\n" + question, question.replace(" ", "\n"), question + " # why", question.replace(" ", "", 1)):
                if spoilt != question:
                    self.assert_never(spoilt)

    def test_a_word_more_or_less(self):
        for question in ("seek a", "seek seek", "count 1", "count a", "least 0", "swaps a", "left", "left a b", "left a a", "best", "best 1", "best a",
                         "best 1 a 2", "best 1 a b", "best a 1", "best 1 2 a", "best 1 a 2 b 3", "best 1 a from _ to _"):
            self.assert_never(question)

    def test_no_names(self):
        for name in ("A", "a1", "abcdefghi", "in", "from", "to", "end", "_", "1", "a,b", "a=1", "-"):
            self.assert_never("left " + name)
            self.assert_never("best 1 " + name)
            self.assert_never("best 1 a 2 " + name)

    def test_numbers_ill_written_nought_or_too_great(self):
        for number in ("0", "-0", "00", "01", "-01", "+1", "1.0", "1e3", "_", "--1", "-", "1000001", "-1000001", "99999999999999", "100000000000000", "a", "1_0", "None"):
            self.assert_never(f"best {number} a")
            self.assert_never(f"best 1 b {number} a")
        for number in ("1", "-1", "1000000", "-1000000", "10"):
            self.assertIsInstance(answer(TEXT, f"best {number} a"), str)

    def test_a_cell_twice_and_seven_terms(self):
        names = "abcdefg"
        text = "\n".join(f"cell {name} 1 2" for name in names)
        terms = [f"{place} {name}" for place, name in enumerate(names, start=1)]
        self.assertEqual(answer(text, "best " + " ".join(terms[:6])).split(" ")[:2], ["best", "42"])
        self.assert_no_row(text, "best " + " ".join(terms))
        for question in ("best 1 a 1 a", "best 1 a 2 b 3 a", "best -1 a 1 a"):
            self.assert_never(question)

    def test_then_the_text(self):
        for question in ("seek", "count", "least", "swaps", "left z", "left a", "best 1 z", "best 1 a"):
            for text, line in (("no row", 0), ("cell a 1\n\nunlike", 2), ("cell a 1 1\nfoo", 1), ("cell a\ncell a", 0), ("cell a 1\nsum 1 a from 1", 1)):
                refusal = raised(HallError, answer, text, question)
                self.assertIsInstance(refusal, NoText)
                self.assertEqual(refusal.line, line)
            for text, word, at in (("cell a 1 1", "cell", 0), ("cell a 1\ncell a 2", "cell", 1), ("cell a 1\nunlike a\nunlike z", "wish", 1),
                                   ("unlike b\ncell a 1\ncell c 2 1", "cell", 1), ("cell a 1\nsame a 1 : same b : unlike c", "wish", 0)):
                refusal = raised(HallError, answer, text, question)
                self.assertIsInstance(refusal, NoHall)
                self.assertEqual((refusal.word, refusal.at), (word, at))

    def test_then_a_cell_that_is_not_there(self):
        for text in (TEXT, NONE.replace("c", "d").replace("dell", "cell"), ""):
            for question in ("left z", "best 1 z", "best 1 y 2 z", "left aa"):
                self.assert_no_row(text, question)
        for question in ("best 1 a 2 z", "best 1 z 2 a", "best 1 a 1 b 1 c"):
            self.assert_no_row(TEXT, question)


class CountsTest(unittest.TestCase):
    def test_great_numbers(self):
        text = "\n".join(f"cell c{one}{other} 0 1 2 3 4 5 6 7 8 9" for one in "abcd" for other in "abcdefghij")
        self.assertEqual(answer(text, "count"), "1" + "0" * 40)
        self.assertEqual(answer(text + "\nunlike caa cab", "count"), "9" + "0" * 39)
        self.assertEqual(answer(text, "swaps"), "780 45")
        self.assertEqual(answer(text, "left cdj"), "0 1 2 3 4 5 6 7 8 9")

    def test_fillings_and_counts_agree(self):
        for hall, fillings in small_halls(1303, 30):
            self.assertEqual(answer(show_hall(hall), "count"), str(len(fillings_of(hall))))
