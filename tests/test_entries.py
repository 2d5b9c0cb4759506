import itertools
import unittest

from pageback.book import pages
from pageback.entries import entries
from pageback.errors import OutOfBook
from pageback.heads import rank
from pageback.marks import poured
from pageback.stretches import stretches

SIXTY_FIGURES = 10 ** 60 - 1
SIX = ("a", "b", "c", "d", "e", "f")


def rows(many):
    return [False] * many


def entries_by_definition(book, most, first, marks):
    own = {mark[0] for mark in marks}
    above = {path[:many] for path in own for many in range(1, len(path))}
    numbers = pages(book, most, first)
    return [
        (path, stretches(numbers, [mark for mark in marks if mark[0] == path]))
        for path in sorted(own | above, key=rank)
    ]


class Entries(unittest.TestCase):
    def assert_told(self, book, most, first, marks, wanted):
        self.assertEqual(entries_by_definition(book, most, first, marks), wanted)
        for handed in (marks, marks[::-1], marks + marks, marks[1:] + marks[:1]):
            self.assertEqual(entries(book, most, first, handed), wanted)

    def test_no_marks(self):
        self.assertEqual(entries(rows(5), 2, 1, []), [])
        self.assertEqual(entries([], 2, 1, []), [])

    def test_one_mark(self):
        self.assert_told(rows(6), 2, 1, [(("ships",), 1, 4, False)], [(("ships",), [(1, 3, False)])])
        self.assert_told(rows(6), 2, 1, [(("ships",), 5, 5, True)], [(("ships",), [(3, 3, True)])])
        self.assert_told([True], 1, 0, [(("ships",), 0, 0, True)], [(("ships",), [(0, 0, True)])])

    def test_settings_and_rows_of_the_book(self):
        marks = [(("ships",), 0, 0, False), (("ships",), 3, 3, False)]
        self.assert_told([False] * 4, 2, 8, marks, [(("ships",), [(8, 9, False)])])
        self.assert_told([False] * 4, 1, 8, marks, [(("ships",), [(8, 8, False), (11, 11, False)])])
        self.assert_told([False] * 4, 9, 8, marks, [(("ships",), [(8, 8, False)])])
        self.assert_told([False, True, True, False], 9, 8, marks, [(("ships",), [(8, 8, False), (10, 10, False)])])

    def test_marks_of_one_path_together(self):
        self.assert_told(
            rows(9), 1, 1,
            [(("a",), 0, 2, False), (("b",), 0, 8, False), (("a",), 3, 3, True), (("a",), 6, 8, False)],
            [(("a",), [(1, 3, False), (4, 4, True), (7, 9, False)]), (("b",), [(1, 9, False)])],
        )

    def test_marks_of_its_own_and_a_path_beneath(self):
        self.assert_told(
            rows(4), 1, 1, [(("a", "b"), 0, 1, False), (("a",), 3, 3, True)],
            [(("a",), [(4, 4, True)]), (("a", "b"), [(1, 2, False)])],
        )

    def test_above_another_without_marks(self):
        self.assert_told(
            rows(4), 1, 1, [(("a", "b", "c"), 0, 1, False)],
            [(("a",), []), (("a", "b"), []), (("a", "b", "c"), [(1, 2, False)])],
        )

    def test_marks_in_the_midst_alone(self):
        self.assert_told(
            rows(4), 1, 1, [(("a", "b", "c"), 0, 1, False), (("a", "b"), 2, 2, False), (("a", "d"), 0, 0, False)],
            [(("a",), []), (("a", "b"), [(3, 3, False)]), (("a", "b", "c"), [(1, 2, False)]),
             (("a", "d"), [(1, 1, False)])],
        )

    def test_six_heads(self):
        wanted = [(SIX[:many], []) for many in range(1, 6)] + [(SIX, [(1, 1, False)])]
        self.assert_told(rows(4), 9, 1, [(SIX, 0, 1, False)], wanted)
        wanted[2] = (SIX[:3], [(1, 1, True)])
        self.assert_told(rows(4), 9, 1, [(SIX, 0, 1, False), (SIX[:3], 3, 3, True)], wanted)

    def test_order_of_paths(self):
        paths = [("A",), ("A", "z"), ("a",), ("a", "a"), ("a b",), ("b|a",), ("ab",), ("B",), ("Ann|de Vries",), ("Z",)]
        self.assert_told(
            rows(2), 1, 1, [(path, 1, 1, False) for path in paths], [(path, [(2, 2, False)]) for path in paths]
        )

    def test_like_keys_are_paths_of_their_own(self):
        self.assert_told(
            rows(3), 1, 1, [(("A", "x"), 0, 0, False), (("a", "x"), 1, 1, False), (("a",), 2, 2, False)],
            [(("A",), []), (("A", "x"), [(1, 1, False)]), (("a",), [(3, 3, False)]), (("a", "x"), [(2, 2, False)])],
        )

    def test_first_page_of_sixty_figures(self):
        self.assert_told(
            rows(3), 1, SIXTY_FIGURES, [(("a",), 1, 2, False)],
            [(("a",), [(SIXTY_FIGURES + 1, SIXTY_FIGURES + 2, False)])],
        )

    def test_all_small_ones(self):
        marks = [
            (path, first, last, (first + last + len(path)) % 2 == 0)
            for path in (("a",), ("a", "b"), ("a", "b", "c"), ("A", "b")) for first, last in ((0, 0), (1, 2), (0, 3))
        ]
        for many in range(4):
            for some in itertools.combinations(marks, many):
                handed = list(some)[::-1]
                self.assertEqual(entries(rows(4), 1, 1, handed), entries_by_definition(rows(4), 1, 1, handed))

    def test_as_large_as_promised(self):
        book = [number % 11 == 0 for number in range(1000)]
        marks = [(SIX[:1 + number % 6], number, 999 - number, number % 5 == 0) for number in range(300)]
        self.assertEqual(entries(book, 4, 1, marks), entries_by_definition(book, 4, 1, marks))


class Refused(unittest.TestCase):
    def assert_refused(self, book, marks, path, first, last):
        for handed in (marks, marks[::-1], marks + marks, marks[1:] + marks[:1]):
            with self.assertRaises(OutOfBook) as caught:
                entries(book, 2, 1, handed)
            error = caught.exception
            self.assertIs(type(error), OutOfBook)
            self.assertEqual((error.path, error.first, error.last), (path, first, last))

    def test_each_way_not_to_fit(self):
        for first, last in ((-1, 2), (-1, -1), (3, 2), (0, -1), (2, 5), (5, 5), (6, 5), (0, SIXTY_FIGURES),
                            (-SIXTY_FIGURES, SIXTY_FIGURES)):
            for most in (False, True):
                self.assert_refused(rows(5), [(("a", "b"), first, last, most)], ("a", "b"), first, last)

    def test_book_of_no_rows(self):
        self.assert_refused([], [(("a",), 0, 0, False)], ("a",), 0, 0)
        self.assert_refused([], [(("a",), 0, -1, False)], ("a",), 0, -1)

    def test_just_fitting(self):
        self.assertEqual(entries(rows(5), 9, 1, [(("a",), 0, 4, False)]), [(("a",), [(1, 1, False)])])

    def test_among_marks_that_fit(self):
        marks = [(("a",), 0, 4, False), (("b",), 1, 5, True), (("c",), 0, 0, False)]
        self.assert_refused(rows(5), marks, ("b",), 1, 5)

    def test_first_by_path(self):
        marks = [(("B",), 7, 7, False), (("a", "z"), 8, 9, False), (("b",), 6, 6, False), (("b|a",), 5, 5, False)]
        self.assert_refused(rows(5), marks, ("a", "z"), 8, 9)
        self.assert_refused(rows(5), marks[:1] + marks[2:], ("b|a",), 5, 5)
        self.assert_refused(rows(5), marks[:1] + marks[2:3], ("B",), 7, 7)

    def test_first_by_first_then_last(self):
        marks = [(("a",), 3, 11, False), (("a",), 3, 9, True), (("a",), 10, 10, False), (("a",), 0, 4, False)]
        self.assert_refused(rows(5), marks, ("a",), 3, 9)
        self.assert_refused(rows(5), marks + [(("a",), -1, 20, False)], ("a",), -1, 20)

    def test_path_ahead_goes_before_a_lesser_first(self):
        self.assert_refused(rows(5), [(("b",), -1, 0, False), (("a",), 9, 9, False)], ("a",), 9, 9)

    def test_path_above_goes_first(self):
        self.assert_refused(rows(5), [(SIX, 5, 5, False), (SIX[:5], 6, 6, False)], SIX[:5], 6, 6)

    def test_refused_marks_are_as_they_were(self):
        book = rows(3)
        marks = [(("b",), 7, 7, False), (("a",), 0, 0, False)]
        with self.assertRaises(OutOfBook):
            entries(book, 1, 1, marks)
        self.assertEqual(book, rows(3))
        self.assertEqual(marks, [(("b",), 7, 7, False), (("a",), 0, 0, False)])


class Copies(unittest.TestCase):
    def test_handed_in_is_as_it_was(self):
        book = [True, False, True, False]
        marks = [(("b", "c"), 1, 2, False), (("a",), 0, 0, True), (("b", "c"), 1, 2, False)]
        entries(book, 1, 1, marks)
        self.assertEqual(book, [True, False, True, False])
        self.assertEqual(marks, [(("b", "c"), 1, 2, False), (("a",), 0, 0, True), (("b", "c"), 1, 2, False)])

    def test_told_lists_are_the_askers_own(self):
        marks = [(("a", "b", "c"), 1, 2, False), (("d", "e"), 0, 0, True)]
        told = entries(rows(3), 1, 1, marks)
        kept = [(path, list(found)) for path, found in told]
        for number, (path, found) in enumerate(told):
            found.append((number, number, True))
        for number, (path, found) in enumerate(told):
            self.assertEqual(found, kept[number][1] + [(number, number, True)])
        told.pop()
        self.assertEqual(entries(rows(3), 1, 1, marks), kept)

    def test_told_lists_stay(self):
        book = rows(2)
        marks = [(("a",), 0, 1, False)]
        told = entries(book, 1, 1, marks)
        book.append(True)
        marks.append((("a",), 2, 2, True))
        entries(book, 1, 1, marks)
        self.assertEqual(told, [(("a",), [(1, 2, False)])])

    def test_new_tuples_and_kinds(self):
        marks = [(("a", "b"), 0, 1, False), (("c",), 0, 0, True)]
        told = entries(rows(2), 1, 1, marks)
        self.assertIs(type(told), list)
        for row in told:
            self.assertEqual((type(row), type(row[0]), type(row[1])), (tuple, tuple, list))
            for mark in marks:
                self.assertIsNot(row[0], mark[0])

    def test_the_same_of_poured_marks(self):
        marks = [(("b",), 0, 1, False), (("a",), 0, 0, True), (("b",), 0, 1, False)]
        self.assertEqual(entries(rows(2), 1, 1, poured([marks])), entries(rows(2), 1, 1, marks))


if __name__ == "__main__":
    unittest.main()
