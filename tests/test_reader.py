import unittest

from helper import ROW_WORDS, raised
from seekhall.errors import NoHall, NoText
from seekhall.reader import read_hall, read_wish

FOURTEEN = "9" * 14
FIFTEEN = "1" + "0" * 14

READ = (
    ("unlike a", ("unlike", ("a",))),
    ("unlike b a abcdefgh", ("unlike", ("b", "a", "abcdefgh"))),
    ("many 1 -2 0 in a b from 0 to 2", ("many", (1, -2, 0), ("a", "b"), 0, 2)),
    ("many in a from 3 to 1", ("many", (), ("a",), 3, 1)),
    ("sum 2 a from -1 to 5", ("sum", ((2, "a"),), -1, 5)),
    ("sum 2 a -3 b 1 c from _ to 0", ("sum", ((2, "a"), (-3, "b"), (1, "c")), None, 0)),
    ("sum 2 a from 0 to _", ("sum", ((2, "a"),), 0, None)),
    ("sum 2 a from _ to _", ("sum", ((2, "a"),), None, None)),
    ("sum 2 a from -10000000000000 to 10000000000000", ("sum", ((2, "a"),), -(10 ** 13), 10 ** 13)),
    ("table a b : 1 2 ; -3 4", ("table", ("a", "b"), ((1, 2), (-3, 4)))),
    ("table a : 0", ("table", ("a",), ((0,),))),
    ("table a b :", ("table", ("a", "b"), ())),
    ("way a b : 0 -5 1 ; 1 2 0 end 0 1", ("way", ("a", "b"), ((0, -5, 1), (1, 2, 0)), (0, 1))),
    ("way a : 0 1 0 end", ("way", ("a",), ((0, 1, 0),), ())),
    ("way a : end 3", ("way", ("a",), (), (3,))),
    ("way a : end", ("way", ("a",), (), ())),
    ("behind -3 a b", ("behind", ("a", "b"), -3)),
    ("behind 0 a", ("behind", ("a",), 0)),
    ("same c 1 2 : unlike a b", ("same", "c", (1, 2), ("unlike", ("a", "b")))),
    ("same c : many in a from 0 to 1", ("same", "c", (), ("many", (), ("a",), 0, 1))),
    ("same c 1 : table a : 1 ; 2", ("same", "c", (1,), ("table", ("a",), ((1,), (2,))))),
    ("same c : table a :", ("same", "c", (), ("table", ("a",), ()))),
    ("same c : way a : end", ("same", "c", (), ("way", ("a",), (), ()))),
    ("same c -1 : sum 1 a from _ to 2", ("same", "c", (-1,), ("sum", ((1, "a"),), None, 2))),
    ("same c 5 : behind 1 a b", ("same", "c", (5,), ("behind", ("a", "b"), 1))),
    ("unlike unlike cell", ("unlike", ("unlike", "cell"))),
    ("same same : table table :", ("same", "same", (), ("table", ("table",), ()))),
    ("sum 1 sum from _ to _", ("sum", ((1, "sum"),), None, None)),
)

UNSOUND = (
    ("unlike a a", ("unlike", ("a", "a"))),
    ("unlike " + " ".join("abcdefghijklm"), ("unlike", tuple("abcdefghijklm"))),
    ("many 1 1 in a a from -1 to 9", ("many", (1, 1), ("a", "a"), -1, 9)),
    ("many " + FOURTEEN + " in a from 0 to 1", ("many", (10 ** 14 - 1,), ("a",), 0, 1)),
    ("sum 0 a from 1 to 2", ("sum", ((0, "a"),), 1, 2)),
    ("sum 1 a 1 a from 1 to " + FOURTEEN, ("sum", ((1, "a"), (1, "a")), 1, 10 ** 14 - 1)),
    ("table a b : 1 ; 1 2 3", ("table", ("a", "b"), ((1,), (1, 2, 3)))),
    ("table a : 1 ; 1", ("table", ("a",), ((1,), (1,)))),
    ("way a : 99 1 -1 ; 99 1 -1 end 21 21", ("way", ("a",), ((99, 1, -1), (99, 1, -1)), (21, 21))),
    ("behind -" + FOURTEEN + " a", ("behind", ("a",), 1 - 10 ** 14)),
    ("same a : unlike a", ("same", "a", (), ("unlike", ("a",)))),
    ("same a : same b 1 : unlike c", ("same", "a", (), ("same", "b", (1,), ("unlike", ("c",))))),
)

BAD_NUMBERS = ("-0", "00", "01", "-01", "007", "+1", "--1", "-", "1-", "1.0", "1e3", "1_000", "0x1", "_", "x", "A", ":", ";", "1;",
               FIFTEEN, "-" + FIFTEEN, "1,2", "\u0661", "\u00b2", "in", "end", "'", "(1)")
BAD_NAMES = ("in", "from", "to", "end", "A", "aB", "a1", "1", "abcdefghi", "a_", "_", "a-b", ":", ";", "a:", "a;", "\u00e9", "-")

NO_WISHES = (
    "", " ", "#", "# unlike a", "unlikes a", "Unlike a", "a", "7", ":", ";", "unlike:", "un like a", "cell", "cell a 1", "cell a",
    "hall", "in", "end", "unlike", "many", "sum", "table", "way", "behind", "same", "unlike ,a", "unlike a, b", "unlike a : b",
    "unlike a 1", "many 1 2", "many 1 in", "many 1 in a", "many 1 in a from", "many 1 in a from 0", "many 1 in a from 0 to",
    "many 1 in a from 0 to 1 2", "many 1 in a from 0 to 1 to 2", "many 1 in a from 0 from 1 to 2", "many 1 in in a from 0 to 1",
    "many 1 in from 0 to 1", "many 1 a from 0 to 1", "many 1 in a 0 to 1", "many 1 in a from 0 1", "many 1 in a from to 1",
    "many 1 in a in b from 0 to 1", "many in 1 in a from 0 to 1", "many 1 in a from _ to 1", "many 1 in a from 0 to _",
    "many _ in a from 0 to 1", "many a in a from 0 to 1", "many 1 in a to 1 from 0", "many 1 in a b 2 from 0 to 1",
    "sum from 0 to 1", "sum 1 from 0 to 1", "sum a from 0 to 1", "sum a 1 from 0 to 1", "sum 1 a 2 from 0 to 1",
    "sum 1 a b from 0 to 1", "sum 1 2 a from 0 to 1", "sum 1 a", "sum 1 a from", "sum 1 a from 0", "sum 1 a from 0 to",
    "sum 1 a from 0 to 1 2", "sum 1 a 0 to 1", "sum 1 a from 0 1", "sum 1 a from to 1", "sum 1 a from from 0 to 1",
    "sum 1 a from 0 to to 1", "sum _ a from 0 to 1", "sum 1 a from __ to 1", "sum 1 a from -_ to 1", "sum 1 a to 1",
    "table a", "table :", "table : 1", "table a : ;", "table a : 1 ;", "table a : ; 1", "table a : 1 ; ; 2", "table a : : 1",
    "table a : 1 : 2", "table a 1", "table a : 1 ; b", "table a : a", "table a:", "table a : 1;2", "table a ; 1", "table a : _",
    "way a", "way a :", "way : end", "way end", "way a end", "way a : 0 1 0", "way a : 0 1 end 0", "way a : 0 1 0 0 end 0",
    "way a : 0 1 0 ; end 0", "way a : ; 0 1 0 end 0", "way a : 0 1 0 ; ; 0 2 0 end", "way a : ; end", "way a : 0 1 0 ; 0 2 end",
    "way a : 0 1 0 1 2 0 end", "way a : end end", "way a : end 0 end", "way a : end ; 0", "way a : end 0 ; 1", "way a : : end",
    "way a : 0 a 0 end", "way a : end a", "way a : end 0 : 1", "way a : end _", "way 1 a : end",
    "behind a", "behind 1", "behind a 1", "behind 1 2 a", "behind 1 a 2", "behind _ a", "behind",
    "same a", "same :", "same a 1", "same a :", "same a 1 :", "same : unlike a", "same 1 : unlike a", "same a b : unlike c",
    "same a unlike b", "same a 1 unlike b", "same a : : unlike b", "same a : cell b 1", "same a : b", "same a : unlike",
    "same a : 1", "same a _ : unlike b", "same a : unlike b : unlike c", "same a : same b unlike c", "same a : same b :",
    "same a 1 : table b", "same a : way b :", "same in : unlike b", "same a 01 : unlike b",
)


class WishTest(unittest.TestCase):
    def assert_no_wish(self, text):
        refusal = raised(NoText, read_wish, text)
        self.assertIsNotNone(refusal, text)
        self.assertEqual(refusal.line, 0)

    def test_every_form_of_row(self):
        for text, wish in READ:
            self.assertEqual(read_wish(text), wish)

    def test_what_is_not_sound_is_read(self):
        for text, wish in UNSOUND:
            self.assertEqual(read_wish(text), wish)

    def test_more_blanks_and_remarks(self):
        for text, wish in READ + UNSOUND:
            for changed in (text.replace(" ", "  "), text.replace(" ", "   "), "  " + text, text + "   ", text + "#",
                            text + " # unlike : ; 01 %", " " + text + "#a#b", text + " ###"):
                self.assertEqual(read_wish(changed), wish, changed)

    def test_what_is_no_wish(self):
        for text in NO_WISHES:
            self.assert_no_wish(text)
            self.assert_no_wish("  " + text + " # unlike a")

    def test_bad_numbers_in_each_place(self):
        for word in BAD_NUMBERS:
            if word != "in":
                self.assert_no_wish("many " + word + " in a from 0 to 1")
            self.assert_no_wish("many 1 in a from " + word + " to 1")
            self.assert_no_wish("many 1 in a from 0 to " + word)
            self.assert_no_wish("sum " + word + " a from 0 to 1")
            if word != "_":
                self.assert_no_wish("sum 1 a from " + word + " to 1")
                self.assert_no_wish("sum 1 a from 0 to " + word)
            self.assert_no_wish("table a : " + word)
            self.assert_no_wish("table a : 1 ; " + word)
            for step in ("{} 1 0", "0 {} 0", "0 1 {}"):
                self.assert_no_wish("way a : " + step.replace("{}", word) + " end 0")
            self.assert_no_wish("way a : 0 1 0 end " + word)
            self.assert_no_wish("behind " + word + " a")
            if word != ":":
                self.assert_no_wish("same a " + word + " : unlike b")

    def test_numbers_that_are_written_well(self):
        for word in ("0", "1", "-1", "10", "-10", "100", FOURTEEN, "-" + FOURTEEN):
            self.assertEqual(read_wish("behind " + word + " a"), ("behind", ("a",), int(word)))
            self.assertEqual(read_wish("table a : " + word), ("table", ("a",), ((int(word),),)))

    def test_bad_names_in_each_place(self):
        for word in BAD_NAMES:
            for text in ("unlike {}", "unlike a {}", "many 1 in {} from 0 to 1", "sum 1 {} from 0 to 1", "behind 1 {}",
                         "table {} : 1", "way {} : end", "same {} : unlike a", "same a : unlike {}"):
                self.assert_no_wish(text.replace("{}", word))
        for word in ("in", "from", "to", "end", "A", "a1", ":"):
            for text in ("many 1 in a {} from 0 to 1", "table a {} b : 1", "way a {} : end", "behind 1 a {} b", "unlike a {} b"):
                self.assert_no_wish(text.replace("{}", word))

    def test_other_signs_part_no_words(self):
        for sign in "\t\r\x0b\x0c\u00a0\u2003":
            self.assert_no_wish("unlike" + sign + "a")
            self.assert_no_wish("unlike a" + sign + "b")
            self.assert_no_wish("unlike a" + sign)

    def test_one_row_alone(self):
        for text in ("unlike a\nunlike b", "unlike a\n", "\nunlike a", "unlike a # b\nunlike b", "# a\nunlike b", "\n"):
            self.assert_no_wish(text)

    def test_sames_far_within_sames(self):
        wish = read_wish("same a : " * 880 + "unlike b")
        depth = 0
        while wish[0] == "same":
            self.assertEqual(wish[:3], ("same", "a", ()))
            wish = wish[3]
            depth += 1
        self.assertEqual((depth, wish), (880, ("unlike", ("b",))))
        self.assert_no_wish("same a : " * 880)


class HallTest(unittest.TestCase):
    def assert_no_text(self, text, line):
        refusal = raised(NoText, read_hall, text)
        self.assertIsNotNone(refusal, text)
        self.assertEqual(refusal.line, line, text)

    def assert_no_hall(self, text, word, at):
        refusal = raised(NoHall, read_hall, text)
        self.assertIsNotNone(refusal, text)
        self.assertEqual((refusal.word, refusal.at), (word, at), text)

    def test_hall_of_nothing(self):
        for text in ("", " ", "\n", "\n\n  \n", "#", "# cell a 1", "\n#\n  # x\n"):
            self.assertEqual(read_hall(text), ((), ()))

    def test_cells(self):
        text = "cell a 1\ncell abcdefgh -3 0 2\ncell z " + " ".join(map(str, range(10)))
        self.assertEqual(read_hall(text), ((("a", (1,)), ("abcdefgh", (-3, 0, 2)), ("z", tuple(range(10)))), ()))

    def test_wishes_of_all_sorts(self):
        names = ["a", "b", "c", "abcdefgh", "unlike", "cell", "same", "table", "sum"]
        rows = ["cell " + name + " 0 1" for name in names] + [text for text, wish in READ]
        hall = (tuple((name, (0, 1)) for name in names), tuple(wish for text, wish in READ))
        self.assertEqual(read_hall("\n".join(rows)), hall)
        self.assertEqual(read_hall("\n".join(reversed(rows))), (hall[0][::-1], hall[1][::-1]))

    def test_cells_anywhere(self):
        text = "unlike a b\ncell b 1 2\nbehind 1 b a\ncell a 2 3\nunlike b"
        cells = (("b", (1, 2)), ("a", (2, 3)))
        self.assertEqual(read_hall(text), (cells, (("unlike", ("a", "b")), ("behind", ("b", "a"), 1), ("unlike", ("b",)))))

    def test_blanks_remarks_and_empty_rows(self):
        text = "\n  cell   a  1   2 # one\n\n   \n# cell z 1\n unlike  a#b : ;\n  #\ncell b 0#\n"
        self.assertEqual(read_hall(text), ((("a", (1, 2)), ("b", (0,))), (("unlike", ("a",)),)))

    def test_cells_called_like_words(self):
        text = "\n".join("cell " + word + " 1" for word in ROW_WORDS) + "\nunlike " + " ".join(ROW_WORDS)
        self.assertEqual(read_hall(text), (tuple((word, (1,)) for word in ROW_WORDS), (("unlike", ROW_WORDS),)))

    def test_bad_rows_of_cells(self):
        rows = ["cell", "cell a", "cell 1", "cell 1 a", "cell a b", "cell a 1 b", "cell a : 1", "cell a 1 ; 2", "cell a _",
                "cells a 1", "Cell a 1", "cell a 1 2 in", "cell a 1,2", "cel a 1"]
        rows += ["cell a " + word for word in BAD_NUMBERS] + ["cell a 1 " + word for word in BAD_NUMBERS]
        rows += ["cell " + word + " 1" for word in BAD_NAMES]
        for row in rows:
            self.assert_no_text(row, 0)
            self.assert_no_text("cell x 1\n\n# y\n" + row + "\nunlike x", 3)

    def test_bad_rows_of_wishes(self):
        for row in NO_WISHES:
            if row.partition("#")[0].strip() and not row.startswith("cell a 1"):
                self.assert_no_text(row, 0)
                self.assert_no_text("cell a 1\ncell b 1\n   \n" + row + "\n" + row, 3)

    def test_all_rows_are_counted(self):
        self.assert_no_text("\n\nfoo", 2)
        self.assert_no_text("# a\nfoo\nbar", 1)
        self.assert_no_text("cell a 1\nunlike a\nfoo", 2)
        self.assert_no_text("\n" * 500 + "unlike", 500)

    def test_other_signs_end_no_row(self):
        self.assert_no_text("cell a 1\rcell b 1", 0)
        self.assert_no_text("cell a 1\n\ncell a 1\x0c2", 2)
        self.assert_no_text("cell a\t1", 0)

    def test_no_text_goes_ahead_of_no_hall(self):
        self.assert_no_text("cell a 2 1\ncell a 1\nunlike x\nfoo", 3)
        self.assert_no_text("unlike x\ncell a", 1)

    def test_what_is_not_sound(self):
        self.assert_no_hall("cell a 2 1", "cell", 0)
        self.assert_no_hall("cell a 1 1", "cell", 0)
        self.assert_no_hall("cell a " + " ".join(map(str, range(11))), "cell", 0)
        self.assert_no_hall("cell a 1\n\nunlike a\ncell b 1000001", "cell", 1)
        self.assert_no_hall("cell a -1000001", "cell", 0)
        self.assert_no_hall("cell a " + FOURTEEN, "cell", 0)
        self.assert_no_hall("cell a 1\nunlike a\ncell b 1\n# x\ncell a 1", "cell", 2)
        self.assert_no_hall("unlike x\ncell a 1\ncell b 1 0", "cell", 1)
        self.assert_no_hall("unlike a\ncell a 1\nunlike a b\nunlike c", "wish", 1)
        self.assert_no_hall("cell a 1\nsame a : unlike a", "wish", 0)

    def test_unsound_wishes_are_refused_by_number(self):
        head = "\n".join("cell " + name + " 0 1" for name in "abcdefghijklm")
        for text, wish in UNSOUND:
            self.assert_no_hall(head + "\n" + text, "wish", 0)
            self.assert_no_hall(text + "\n" + head, "wish", 0)
            self.assert_no_hall(head + "\n\nunlike a\n#\n" + text + "\nunlike z", "wish", 1)

    def test_sames_far_within_sames_are_no_hall(self):
        self.assert_no_hall("cell a 1\ncell b 1\n" + "same a : " * 880 + "unlike b", "wish", 0)
