import itertools
import unittest

from pageback.book import pages
from pageback.stretches import stretches

SIXTY_FIGURES = 10 ** 60 - 1
PATH = ("ships", "of war")


def tell(first, last):
    return (PATH, first, last, False)


def most(first, last):
    return (PATH, first, last, True)


def pages_by_definition(numbers, marks):
    """Each page on which a row lies that a mark covers, with whether it is strong."""
    covered = {}
    for row, page in enumerate(numbers):
        over = [mark[3] for mark in marks if mark[1] <= row <= mark[2]]
        if over:
            covered[page] = covered.get(page, False) or True in over
    return covered


class Told(unittest.TestCase):
    def assert_told(self, numbers, marks, wanted):
        for handed in (marks, marks[::-1], marks + marks, marks[1:] + marks[:1]):
            self.assertEqual(stretches(numbers, handed), wanted)

    def assert_right(self, numbers, marks):
        told = stretches(numbers, marks)
        covered = {}
        for first, last, strong in told:
            self.assertLessEqual(first, last)
            self.assertIn(strong, (True, False))
            for page in range(first, last + 1):
                self.assertNotIn(page, covered)
                covered[page] = strong
        self.assertEqual(covered, pages_by_definition(numbers, marks), (numbers, marks))
        for one, other in itertools.pairwise(told):
            self.assertLess(one[1], other[0])
            self.assertFalse(one[1] + 1 == other[0] and one[2] == other[2], (numbers, marks, told))


class OneMark(Told):
    def test_no_marks(self):
        self.assertEqual(stretches([], []), [])
        self.assertEqual(stretches([1, 1, 2], []), [])

    def test_one_row(self):
        self.assert_told([4, 4, 5], [tell(0, 0)], [(4, 4, False)])
        self.assert_told([4, 4, 5], [tell(2, 2)], [(5, 5, False)])
        self.assert_told([4, 4, 5], [most(1, 1)], [(4, 4, True)])

    def test_several_rows_on_one_page(self):
        self.assert_told([4, 4, 4, 5], [tell(0, 2)], [(4, 4, False)])
        self.assert_told([4, 4, 4, 5], [most(1, 2)], [(4, 4, True)])

    def test_rows_on_several_pages(self):
        self.assert_told([4, 4, 5, 6, 6, 7], [tell(1, 4)], [(4, 6, False)])
        self.assert_told([4, 4, 5, 6, 6, 7], [most(1, 2)], [(4, 5, True)])
        self.assert_told([4, 4, 5, 6, 6, 7], [tell(0, 5)], [(4, 7, False)])


class SeveralMarks(Told):
    ROWS = list(range(10, 20))

    def test_within_one_another(self):
        self.assert_told(self.ROWS, [tell(1, 6), tell(3, 4)], [(11, 16, False)])
        self.assert_told(self.ROWS, [most(1, 6), most(1, 4), most(6, 6)], [(11, 16, True)])

    def test_over_one_another(self):
        self.assert_told(self.ROWS, [tell(1, 4), tell(3, 6)], [(11, 16, False)])

    def test_beside_one_another(self):
        self.assert_told(self.ROWS, [tell(1, 2), tell(3, 4)], [(11, 14, False)])
        self.assert_told(self.ROWS, [tell(1, 2), tell(3, 4), tell(5, 5)], [(11, 15, False)])

    def test_neighbouring_strong_pages_of_two_marks(self):
        self.assert_told(self.ROWS, [most(1, 1), most(2, 2)], [(11, 12, True)])
        self.assert_told([1, 1, 2, 2], [most(0, 0), most(3, 3)], [(1, 2, True)])

    def test_apart(self):
        self.assert_told(self.ROWS, [tell(1, 2), tell(4, 5)], [(11, 12, False), (14, 15, False)])
        self.assert_told(self.ROWS, [most(1, 1), tell(3, 3), most(9, 9)],
                         [(11, 11, True), (13, 13, False), (19, 19, True)])

    def test_rows_apart_on_one_page(self):
        self.assert_told([1, 1, 1, 1, 2], [tell(0, 0), tell(3, 3)], [(1, 1, False)])

    def test_rows_apart_on_neighbouring_pages(self):
        self.assert_told([1, 1, 1, 2, 2, 2], [tell(0, 0), tell(5, 5)], [(1, 2, False)])

    def test_strong_page_between_two_that_are_not(self):
        self.assert_told(self.ROWS, [tell(1, 3), most(2, 2)], [(11, 11, False), (12, 12, True), (13, 13, False)])
        self.assert_told(self.ROWS, [tell(1, 1), most(2, 2), tell(3, 3)],
                         [(11, 11, False), (12, 12, True), (13, 13, False)])

    def test_page_that_is_not_strong_between_two(self):
        self.assert_told(self.ROWS, [most(1, 1), tell(2, 2), most(3, 3)],
                         [(11, 11, True), (12, 12, False), (13, 13, True)])
        self.assert_told(self.ROWS, [most(1, 1), tell(0, 9), most(3, 4)],
                         [(10, 10, False), (11, 11, True), (12, 12, False), (13, 14, True), (15, 19, False)])

    def test_page_covered_by_a_mark_of_most_and_another(self):
        self.assert_told([1, 1, 2], [tell(0, 0), most(1, 1)], [(1, 1, True)])
        self.assert_told([1, 1, 2], [most(0, 0), tell(1, 2)], [(1, 1, True), (2, 2, False)])
        self.assert_told([1, 2], [most(0, 1), tell(0, 1)], [(1, 2, True)])

    def test_page_numbers_of_sixty_figures(self):
        numbers = pages([False] * 8, 2, SIXTY_FIGURES)
        first = SIXTY_FIGURES
        self.assert_told(numbers, [tell(0, 7)], [(first, first + 3, False)])
        self.assert_told(numbers, [tell(0, 0), most(3, 3), tell(6, 7)],
                         [(first, first, False), (first + 1, first + 1, True), (first + 3, first + 3, False)])

    def test_page_nought(self):
        self.assert_told([0, 0, 1], [tell(1, 2), most(0, 0)], [(0, 0, True), (1, 1, False)])

    def test_rising_whatever_the_figures(self):
        numbers = list(range(8, 12))
        self.assert_told(numbers, [tell(2, 2), tell(0, 0)], [(8, 8, False), (10, 10, False)])
        self.assert_told(numbers, [tell(3, 3), most(2, 2), tell(1, 1)],
                         [(9, 9, False), (10, 10, True), (11, 11, False)])

    def test_thousand_rows(self):
        numbers = pages([False] * 1000, 3, 1)
        marks = [(PATH, 3 * number, 999 - 3 * number, number % 2 == 1) for number in range(150)]
        self.assert_right(numbers, marks)
        self.assertEqual(stretches(numbers, marks), [(1, 1, False), (2, 333, True), (334, 334, False)])


class AllSmallOnes(Told):
    def test_up_to_three_marks(self):
        rows = range(4)
        spans = [(first, last) for first in rows for last in rows if first <= last]
        marks = [(PATH, first, last, strong) for first, last in spans for strong in (False, True)]
        for numbers in ([1, 2, 3, 4], [1, 1, 2, 3], [5, 6, 6, 7], [0, 0, 1, 1], [9, 9, 9, 9]):
            for many in range(4):
                for some in itertools.combinations(marks, many):
                    self.assert_right(numbers, list(some))

    def test_each_page_by_itself(self):
        for signs in itertools.product((None, False, True), repeat=7):
            marks = [(PATH, row, row, sign) for row, sign in enumerate(signs) if sign is not None]
            self.assert_right(list(range(3, 10)), marks)


class Copies(unittest.TestCase):
    def test_handed_in_is_as_it_was(self):
        numbers = [1, 1, 2, 3]
        marks = [most(2, 3), tell(0, 1), most(2, 3)]
        stretches(numbers, marks)
        self.assertEqual(numbers, [1, 1, 2, 3])
        self.assertEqual(marks, [most(2, 3), tell(0, 1), most(2, 3)])

    def test_told_list_is_the_askers_own(self):
        for marks in ([], [tell(0, 0), most(1, 1)]):
            told = stretches([1, 2], marks)
            kept = list(told)
            told.append((7, 7, True))
            told[0] = (8, 8, False)
            self.assertEqual(stretches([1, 2], marks), kept)

    def test_told_list_stays(self):
        numbers = [1, 2]
        marks = [tell(0, 1)]
        told = stretches(numbers, marks)
        numbers.clear()
        marks.clear()
        stretches([5], [most(0, 0)])
        self.assertEqual(told, [(1, 2, False)])

    def test_kinds(self):
        told = stretches([1, 2, 3], [tell(0, 1), most(1, 1), most(2, 2)])
        self.assertIs(type(told), list)
        for stretch in told:
            self.assertIs(type(stretch), tuple)
            self.assertEqual([type(part) for part in stretch], [int, int, bool])


if __name__ == "__main__":
    unittest.main()
