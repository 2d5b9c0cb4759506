import itertools
import unittest

from pageback.errors import NoText
from pageback.texts import read_book, read_hand, shown_hand

SIXTY_FIGURES = 10 ** 60 - 1
FORTY = "a" * 40
SIX = ("a", "b", "c", "d", "e", "f")

# Texts that are no numbers: none, too many figures, a nought ahead, signs, other figures, and what Python would take.
NO_NUMBERS = (
    "", "1" * 61, "0" * 61, "00", "01", "007", "+1", "-1", "-0", "1.0", "1.", "1_0", "x", "1x", "0x1", "1e1", "I",
    "\u0661", "\u00b2", "\uff11", "1\u0661", "1\t", "1\r",
)
NUMBERS = (
    ("0", 0), ("1", 1), ("9", 9), ("10", 10), ("100", 100), ("9" * 60, SIXTY_FIGURES), ("1" + "0" * 59, 10 ** 59),
)

# Texts that are no heads.
NO_HEADS = (
    "", " ", "a" * 41, " a", "a ", "a  b", "a;", ";a", "a;b", "a,b", "a:b", "a.b", "a>b", ">", "a >", "> a", "|", "|a",
    "a|", "a |b", "a| b", "a|b|c", "a_b", "a*", "\u00e4", "a\tb", "a\r",
)
HEADS = ("a", "Z", "0", "-", "17", "a b", "a-b", "Ann|de Vries", "a|b", "tell", "see", "most 1 2 b", "row", FORTY,
         "a" * 19 + "|" + "b" * 20, "x y z")


class Refusing(unittest.TestCase):
    def assert_refused(self, read, text, row):
        with self.assertRaises(NoText) as caught:
            read(text)
        self.assertIs(type(caught.exception), NoText)
        self.assertEqual(vars(caught.exception), {"row": row}, text)


class ReadBook(Refusing):
    def test_without_rows(self):
        self.assertEqual(read_book("book 3 1"), ([], 3, 1))

    def test_rows(self):
        self.assertEqual(read_book("book 3 1\nrow"), ([False], 3, 1))
        self.assertEqual(read_book("book 3 1\nnew"), ([True], 3, 1))
        self.assertEqual(read_book("book 3 1\nrow\nnew\nnew\nrow"), ([False, True, True, False], 3, 1))

    def test_numbers(self):
        for text, number in NUMBERS:
            self.assertEqual(read_book("book 7 " + text), ([], 7, number))
            if number > 0:
                self.assertEqual(read_book("book " + text + " 7\nnew"), ([True], number, 7))

    def test_most_of_nought(self):
        self.assert_refused(read_book, "book 0 1", 1)
        self.assert_refused(read_book, "book 0 0\nrow", 1)
        self.assert_refused(read_book, "book 0 1\nbad", 1)
        self.assertEqual(read_book("book 1 0"), ([], 1, 0))

    def test_no_numbers(self):
        for text in NO_NUMBERS:
            self.assert_refused(read_book, "book " + text + " 1", 1)
            self.assert_refused(read_book, "book 1 " + text, 1)

    def test_blanks_in_the_first_row(self):
        for text in (" book 3 1", "book  3 1", "book 3  1", "book 3 1 ", "book3 1", "book 31", "book 3\t1",
                     "book\t3 1"):
            self.assert_refused(read_book, text, 1)
            self.assert_refused(read_book, text + "\nrow", 1)

    def test_parts_of_the_first_row(self):
        for text in ("", "book", "book ", "book 3", "book 3 ", "3 1", "book 3 1 1", "book 3 1 row", "hand", "row",
                     "new", "Book 3 1", "BOOK 3 1", "books 3 1", "boo 3 1", "hand 3 1", "tell 3 1", "\nbook 3 1"):
            self.assert_refused(read_book, text, 1)

    def test_rows_that_cannot_stand(self):
        for row in ("", " ", "row ", " row", "new ", " new", "Row", "ROW", "New", "NEW", "rows", "ro", "rownew",
                    "row new", "row 1", "book 3 1", "hand", "tell 0 0 a", "see a > b", "True", "row\r", "0"):
            self.assert_refused(read_book, "book 3 1\n" + row, 2)
            self.assert_refused(read_book, "book 3 1\nrow\nnew\n" + row, 4)
            self.assert_refused(read_book, "book 3 1\nrow\n" + row + "\nnew", 3)

    def test_line_feed_at_the_end(self):
        self.assert_refused(read_book, "book 3 1\n", 2)
        self.assert_refused(read_book, "book 3 1\nrow\n", 3)
        self.assert_refused(read_book, "book 3 1\nrow\n\n", 3)
        self.assert_refused(read_book, "\n", 1)

    def test_other_ends_of_rows_are_none(self):
        for end in ("\r\n", "\r", "\x0b", "\x0c", "\x1c", "\u2028"):
            self.assert_refused(read_book, "book 3 1" + end + "row", 1)
            self.assert_refused(read_book, "book 3 1\nrow" + end + "row", 2)

    def test_the_first_of_two_bad_rows(self):
        self.assert_refused(read_book, "book 3 1\nbad\nbad", 2)
        self.assert_refused(read_book, "book 3 1\nrow\nbad\nnew\nworse", 3)
        self.assert_refused(read_book, "bad\nbad", 1)

    def test_all_small_ones(self):
        for many in range(5):
            for words in itertools.product(("row", "new", "", "book 3 1"), repeat=many):
                text = "\n".join(("book 3 1",) + words)
                bad = [number for number, word in enumerate(words, 2) if word not in ("row", "new")]
                if bad:
                    self.assert_refused(read_book, text, bad[0])
                else:
                    self.assertEqual(read_book(text), ([word == "new" for word in words], 3, 1))

    def test_a_thousand_rows(self):
        book = [number % 7 == 0 for number in range(1000)]
        text = "\n".join(["book 12 5"] + ["new" if new else "row" for new in book])
        self.assertEqual(read_book(text), (book, 12, 5))
        self.assert_refused(read_book, text + "\nbad", 1002)

    def test_hundred_thousand_signs(self):
        self.assert_refused(read_book, "book 3 1\n" + "r" * 99991, 2)
        self.assert_refused(read_book, "book " + "1" * 99993 + " 1", 1)
        self.assert_refused(read_book, "book 3 1\n" + "row\n" * 999 + "\n" * 95000, 1001)

    def test_kinds_and_own_lists(self):
        told = read_book("book 3 1\nrow\nnew")
        self.assertEqual([type(part) for part in told], [list, int, int])
        self.assertIs(type(told), tuple)
        self.assertEqual([type(row) for row in told[0]], [bool, bool])
        told[0].append(True)
        self.assertEqual(read_book("book 3 1\nrow\nnew"), ([False, True], 3, 1))


class ReadHand(Refusing):
    def test_without_rows(self):
        self.assertEqual(read_hand("hand"), ([], []))

    def test_one_row_of_each_sort(self):
        self.assertEqual(read_hand("hand\ntell 0 4 sea"), ([(("sea",), 0, 4, False)], []))
        self.assertEqual(read_hand("hand\nmost 2 3 sea; ships"), ([(("sea", "ships"), 2, 3, True)], []))
        self.assertEqual(read_hand("hand\nsee boats > sea; ships"), ([], [(("boats",), ("sea", "ships"), False)]))
        self.assertEqual(read_hand("hand\nalso sea; ships > boats"), ([], [(("sea", "ships"), ("boats",), True)]))

    def test_rows_in_any_order(self):
        rows = {
            "tell 0 4 b": (0, (("b",), 0, 4, False)), "most 0 4 a": (0, (("a",), 0, 4, True)),
            "see d > a": (1, (("d",), ("a",), False)), "also a > b": (1, (("a",), ("b",), True)),
        }
        for some in itertools.permutations(rows):
            wanted = ([rows[row][1] for row in some if rows[row][0] == 0],
                      [rows[row][1] for row in some if rows[row][0] == 1])
            self.assertEqual(read_hand("\n".join(("hand",) + some)), wanted)

    def test_the_same_row_twice(self):
        self.assertEqual(read_hand("hand\ntell 1 2 a\nsee b > a\ntell 1 2 a\nsee b > a"),
                         ([(("a",), 1, 2, False)] * 2, [(("b",), ("a",), False)] * 2))

    def test_numbers(self):
        for word, most in (("tell", False), ("most", True)):
            for (one, first), (other, last) in itertools.product(NUMBERS, repeat=2):
                # Whether the last is below the first, or beyond a book, is not looked at.
                self.assertEqual(read_hand("hand\n" + word + " " + one + " " + other + " a"),
                                 ([(("a",), first, last, most)], []))

    def test_no_numbers(self):
        for word, text in itertools.product(("tell", "most"), NO_NUMBERS):
            self.assert_refused(read_hand, "hand\n" + word + " " + text + " 1 a", 2)
            self.assert_refused(read_hand, "hand\n" + word + " 1 " + text + " a", 2)

    def test_heads(self):
        for head in HEADS:
            for path in ((head,), (head, "x"), ("x", head), ("x", head, "y"), (head, head)):
                text = "; ".join(path)
                self.assertEqual(read_hand("hand\ntell 1 2 " + text), ([(path, 1, 2, False)], []))
                self.assertEqual(read_hand("hand\nmost 1 2 " + text), ([(path, 1, 2, True)], []))
                self.assertEqual(read_hand("hand\nsee " + text + " > q"), ([], [(path, ("q",), False)]))
                self.assertEqual(read_hand("hand\nalso q > " + text), ([], [(("q",), path, True)]))

    def test_no_heads(self):
        for head in NO_HEADS:
            for path in ((head,), (head, "x"), ("x", head), ("x", head, "y")):
                text = "; ".join(path)
                for row in ("tell 1 2 " + text, "most 1 2 " + text, "see " + text + " > q", "see q > " + text,
                            "also " + text + " > q", "also q > " + text):
                    self.assert_refused(read_hand, "hand\n" + row, 2)

    def test_no_head_at_each_place_of_six(self):
        for place in range(6):
            text = "; ".join(SIX[:place] + ("a_b",) + SIX[place + 1:])
            for row in ("tell 1 2 " + text, "see " + text + " > q", "also q > " + text):
                self.assert_refused(read_hand, "hand\n" + row, 2)

    def test_six_heads_and_seven(self):
        six, seven = "; ".join(SIX), "; ".join(SIX + ("g",))
        self.assertEqual(read_hand("hand\ntell 1 2 " + six), ([(SIX, 1, 2, False)], []))
        self.assertEqual(read_hand("hand\nsee " + six + " > q"), ([], [(SIX, ("q",), False)]))
        self.assertEqual(read_hand("hand\nalso q > " + six), ([], [(("q",), SIX, True)]))
        for row in ("tell 1 2 " + seven, "most 1 2 " + seven, "see " + seven + " > q", "see q > " + seven,
                    "also " + seven + " > q", "also q > " + seven):
            self.assert_refused(read_hand, "hand\n" + row, 2)

    def test_blanks_between_the_parts(self):
        rows = ("tell 1 2 a", "most 1 2 a; b", "see a > b", "also a; b > c")
        for row in rows:
            read_hand("hand\n" + row)
            places = [place for place, sign in enumerate(row) if sign == " "]
            for place in places:
                self.assert_refused(read_hand, "hand\n" + row[:place] + " " + row[place:], 2)
                self.assert_refused(read_hand, "hand\n" + row[:place] + "\t" + row[place + 1:], 2)
                self.assert_refused(read_hand, "hand\n" + row[:place] + row[place + 1:], 2)
            self.assert_refused(read_hand, "hand\n " + row, 2)
            self.assert_refused(read_hand, "hand\n" + row + " ", 2)

    def test_blanks_about_semicolons(self):
        for path in ("a;b", "a ;b", "a ; b", "a;  b", "a; b;", "a; b; ", "; a", ";a", "a;; b", "a; ; b", ";", "; "):
            for row in ("tell 1 2 " + path, "see " + path + " > q", "also q > " + path):
                self.assert_refused(read_hand, "hand\n" + row, 2)

    def test_too_few_parts(self):
        for row in ("", " ", "tell", "tell ", "tell 1", "tell 1 ", "tell 1 2", "tell 1 2 ", "tell a", "tell 1 a",
                    "most", "most 1", "most 1 2", "1 2 a", "see", "see ", "also", "also ", "a > b", "> b"):
            self.assert_refused(read_hand, "hand\n" + row, 2)
            self.assert_refused(read_hand, "hand\n" + row + "\ntell 1 2 a", 2)

    def test_sees_and_their_signs(self):
        for word in ("see", "also"):
            for rest in ("a", "a b", "a > b > c", "a > > b", "a >> b", "a > ", "a >", " > b", "> b", ">", " > ", "a>b",
                         "a> b", "a >b", "a > b >", "a > b > ", "> a > b", "a = b", "a < b", "a - b", "1 2 a"):
                self.assert_refused(read_hand, "hand\n" + word + " " + rest, 2)

    def test_marks_are_no_sees(self):
        for row in ("tell a > b", "most a > b", "tell 1 2 a > b", "most 1 2 a > b"):
            self.assert_refused(read_hand, "hand\n" + row, 2)
        self.assertEqual(read_hand("hand\nsee 1 2 a > b"), ([], [(("1 2 a",), ("b",), False)]))

    def test_words(self):
        for word in ("Tell", "TELL", "Most", "MOST", "tells", "tel", "mos", "row", "new", "hand", "book", "", "-"):
            self.assert_refused(read_hand, "hand\n" + word + " 1 2 a", 2)
        for word in ("See", "SEE", "Also", "ALSO", "sees", "se", "al", "tell", "hand", "", "-"):
            self.assert_refused(read_hand, "hand\n" + word + " a > b", 2)

    def test_first_row(self):
        for text in ("", " ", "hand ", " hand", "Hand", "HAND", "hands", "han", "hand 1", "hand 3 1", "book 3 1", "row",
                     "tell 1 2 a", "see a > b", "\nhand", "hand\r\ntell 1 2 a"):
            self.assert_refused(read_hand, text, 1)
            self.assert_refused(read_hand, text + "\ntell 1 2 a", 1)

    def test_rows_of_a_book(self):
        for row in ("row", "new", "book 3 1", "hand"):
            self.assert_refused(read_hand, "hand\n" + row, 2)

    def test_line_feed_at_the_end(self):
        self.assert_refused(read_hand, "hand\n", 2)
        self.assert_refused(read_hand, "hand\ntell 1 2 a\n", 3)
        self.assert_refused(read_hand, "hand\n\ntell 1 2 a", 2)
        self.assert_refused(read_hand, "\n", 1)

    def test_the_first_of_two_bad_rows(self):
        good = ["tell 1 2 a", "see b > a", "most 0 0 c", "also a > c"]
        bad = ["tell 1 2", "see b", "most 00 0 c", "also a > c_", ""]
        for one, other in itertools.product(bad, repeat=2):
            for place, later in itertools.combinations(range(5), 2):
                rows = good[:place] + [one] + good[place:]
                rows = rows[:later] + [other] + rows[later:]
                self.assert_refused(read_hand, "\n".join(["hand"] + rows), place + 2)

    def test_hundred_thousand_signs(self):
        self.assert_refused(read_hand, "hand\ntell 1 2 " + "a" * 99986, 2)
        self.assert_refused(read_hand, "hand\ntell 1 2 " + "a; " * 33328, 2)
        self.assert_refused(read_hand, "hand\nsee " + "a > " * 24997, 2)
        self.assert_refused(read_hand, "hand\ntell " + "1" * 99986 + " 2 a", 2)
        self.assert_refused(read_hand, "hand\ntell 1 2 a\n" + " " * 99984, 3)
        path = "; ".join([FORTY] * 6)
        wanted = [((FORTY,) * 6, SIXTY_FIGURES, 0, True)] * 280
        text = "\n".join(["hand"] + ["most " + "9" * 60 + " 0 " + path] * 280)
        self.assertEqual(read_hand(text), (wanted, []))
        self.assert_refused(read_hand, text + "\n", 282)

    def test_kinds_and_own_lists(self):
        text = "hand\ntell 1 2 a; b\nmost 3 4 c\nsee d > a\nalso c > a; b"
        told = read_hand(text)
        self.assertIs(type(told), tuple)
        self.assertEqual([type(part) for part in told], [list, list])
        for mark in told[0]:
            self.assertEqual([type(part) for part in mark], [tuple, int, int, bool])
        for see in told[1]:
            self.assertEqual([type(part) for part in see], [tuple, tuple, bool])
        kept = (list(told[0]), list(told[1]))
        told[0].clear()
        told[1].append(told[1][0])
        self.assertEqual(read_hand(text), kept)
        for one, other in itertools.pairwise([read_hand("hand"), read_hand("hand")]):
            one[0].append(1)
            one[1].append(2)
            self.assertEqual(other, ([], []))


class ShownHand(Refusing):
    def test_nothing(self):
        self.assertEqual(shown_hand([], []), "hand")

    def test_one_row_of_each_sort(self):
        self.assertEqual(shown_hand([(("sea",), 0, 4, False)], []), "hand\ntell 0 4 sea")
        self.assertEqual(shown_hand([(("sea", "ships"), 2, 3, True)], []), "hand\nmost 2 3 sea; ships")
        self.assertEqual(shown_hand([], [(("boats",), ("sea", "ships"), False)]), "hand\nsee boats > sea; ships")
        self.assertEqual(shown_hand([], [(("sea", "ships"), ("boats",), True)]), "hand\nalso sea; ships > boats")

    def test_heads_as_they_are(self):
        self.assertEqual(shown_hand([(("Ann|de Vries", "b|a"), 0, 0, False)], [(("x|y",), ("y|x", "z"), True)]),
                         "hand\ntell 0 0 Ann|de Vries; b|a\nalso x|y > y|x; z")

    def test_marks_in_their_order_then_sees_in_theirs(self):
        marks = [(("b",), 3, 4, False), (("a",), 7, 9, True), (("b",), 1, 2, True), (("b",), 3, 4, False)]
        sees = [(("q",), ("b",), True), (("p",), ("a",), False), (("q",), ("a",), False), (("p",), ("a",), False)]
        self.assertEqual(
            shown_hand(marks, sees),
            "hand\ntell 3 4 b\nmost 7 9 a\nmost 1 2 b\ntell 3 4 b\nalso q > b\nsee p > a\nsee q > a\nsee p > a",
        )
        self.assertEqual(read_hand(shown_hand(marks, sees)), (marks, sees))

    def test_last_below_first(self):
        self.assertEqual(shown_hand([(("a",), 4, 0, False)], []), "hand\ntell 4 0 a")
        self.assertEqual(read_hand("hand\ntell 4 0 a"), ([(("a",), 4, 0, False)], []))

    def test_sixty_figures(self):
        marks = [(("a",), SIXTY_FIGURES, 10 ** 59, True), (("a",), 0, SIXTY_FIGURES, False)]
        text = "hand\nmost " + "9" * 60 + " 1" + "0" * 59 + " a\ntell 0 " + "9" * 60 + " a"
        self.assertEqual(shown_hand(marks, []), text)
        self.assertEqual(read_hand(text), (marks, []))

    def test_what_is_written_is_read(self):
        paths = [(head,) for head in HEADS] + [(head, "x", head) for head in HEADS] + [SIX, (FORTY,) * 6]
        marks = [(path, number, 40 - number, number % 3 == 0) for number, path in enumerate(paths)]
        sees = [(path, paths[-number], number % 3 == 1) for number, path in enumerate(paths)]
        for some, others in ((marks, sees), (marks[::-1], sees[::-1]), (marks, []), ([], sees)):
            self.assertEqual(read_hand(shown_hand(some, others)), (some, others))

    def test_what_is_read_is_written(self):
        text = "hand\nmost 7 9 a\ntell 1 2 b c; d\nsee q|r > a\nalso a > b c; d"
        self.assertEqual(shown_hand(*read_hand(text)), text)

    def test_three_hundred_rows(self):
        marks = [(SIX[:1 + number % 6], number, 999, number % 2 == 0) for number in range(150)]
        sees = [(("x" + str(number),), SIX, number % 2 == 0) for number in range(150)]
        self.assertEqual(read_hand(shown_hand(marks, sees)), (marks, sees))

    def test_handed_in_is_as_it_was(self):
        marks, sees = [(("b",), 3, 4, False), (("a",), 7, 9, True)], [(("q",), ("b",), True), (("p",), ("a",), False)]
        self.assertIs(type(shown_hand(marks, sees)), str)
        self.assertEqual(marks, [(("b",), 3, 4, False), (("a",), 7, 9, True)])
        self.assertEqual(sees, [(("q",), ("b",), True), (("p",), ("a",), False)])


if __name__ == "__main__":
    unittest.main()
