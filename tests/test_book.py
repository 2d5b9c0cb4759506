import itertools
import unittest

from pageback.book import pages

SIXTY_FIGURES = 10 ** 60 - 1


def page_by_definition(told, row, book, most, first):
    if row == 0:
        return first
    ahead = told[row - 1]
    if book[row] or told[:row].count(ahead) == most:
        return ahead + 1
    return ahead


class Pages(unittest.TestCase):
    def test_no_rows(self):
        self.assertEqual(pages([], 3, 1), [])

    def test_first_row_either_way(self):
        self.assertEqual(pages([False], 3, 7), [7])
        self.assertEqual(pages([True], 3, 7), [7])
        self.assertEqual(pages([True, False, False], 2, 7), [7, 7, 8])
        self.assertEqual(pages([False, False, False], 2, 7), [7, 7, 8])

    def test_pages_fill(self):
        self.assertEqual(pages([False] * 7, 3, 1), [1, 1, 1, 2, 2, 2, 3])

    def test_new_pages(self):
        self.assertEqual(pages([False, True, True, False, True], 9, 1), [1, 2, 3, 3, 4])

    def test_count_begins_anew_on_a_new_page(self):
        self.assertEqual(pages([False, True, False, False, False], 3, 1), [1, 2, 2, 2, 3])

    def test_full_just_where_a_new_one_begins(self):
        self.assertEqual(pages([False, False, True, False, False], 2, 3), [3, 3, 4, 4, 5])

    def test_most_one(self):
        self.assertEqual(pages([False, True, False, True], 1, 1), [1, 2, 3, 4])

    def test_first_page_nought(self):
        self.assertEqual(pages([False, False, False], 2, 0), [0, 0, 1])

    def test_settings_of_sixty_figures(self):
        self.assertEqual(pages([False, False, True], SIXTY_FIGURES, 1), [1, 1, 2])
        self.assertEqual(
            pages([False, False, True], 1, SIXTY_FIGURES), [SIXTY_FIGURES, SIXTY_FIGURES + 1, SIXTY_FIGURES + 2]
        )

    def test_thousand_rows(self):
        self.assertEqual(pages([False] * 1000, 1000, 5), [5] * 1000)
        self.assertEqual(pages([True] * 1000, 1000, 5), list(range(5, 1005)))
        self.assertEqual(pages([False] * 1000, 7, 0), [row // 7 for row in range(1000)])

    def test_all_small_books(self):
        for many, most, first in itertools.product(range(9), range(1, 6), (0, 4)):
            for book in itertools.product((True, False), repeat=many):
                told = pages(list(book), most, first)
                self.assertEqual(len(told), many)
                for row in range(many):
                    wanted = page_by_definition(told, row, book, most, first)
                    self.assertEqual(told[row], wanted, (book, most, first, row))


class Copies(unittest.TestCase):
    def test_book_is_as_it_was(self):
        book = [True, False, True, False, False]
        pages(book, 1, 1)
        self.assertEqual(book, [True, False, True, False, False])

    def test_told_list_is_the_askers_own(self):
        for book in ([], [False, True, False]):
            told = pages(book, 2, 1)
            kept = list(told)
            told.append(99)
            told[0] = 98
            self.assertEqual(pages(book, 2, 1), kept)

    def test_told_list_stays_when_the_book_changes(self):
        book = [False, False]
        told = pages(book, 1, 1)
        book.append(True)
        pages(book, 2, 5)
        self.assertEqual(told, [1, 2])

    def test_whole_numbers_in_a_list(self):
        told = pages([True, False], 1, 0)
        self.assertIs(type(told), list)
        for page in told:
            self.assertIs(type(page), int)


if __name__ == "__main__":
    unittest.main()
