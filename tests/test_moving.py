import itertools
import unittest

from pageback.entries import entries
from pageback.heads import rank
from pageback.marks import poured
from pageback.moving import changes, moved_book, moved_marks

PATH = ("ships",)
SIX = ("a", "b", "c", "d", "e", "f")

# Paths in their order: the same keys with letters of two sizes, with a turn, and paths beneath one another.
PATHS = [
    ("A",), ("A", "z"), ("a",), ("a", "A"), ("a", "a"), ("a", "a", "a"), ("a b",), ("b|a",), ("a-b",), ("ab",), ("B",),
    ("c", "d", "e", "f", "g", "h"),
]


def orders(some):
    return (some, some[::-1], some + some, some[1:] + some[:1])


def deeds_of(many):
    """Every deed that fits a book of so many rows."""
    puts = [("put", at, new) for at in range(many + 1) for new in (False, True)]
    return puts + [("cut", at) for at in range(many)]


class MovedBook(unittest.TestCase):
    def test_put_into_a_book_without_rows(self):
        self.assertEqual(moved_book([], ("put", 0, True)), [True])
        self.assertEqual(moved_book([], ("put", 0, False)), [False])

    def test_put_ahead_of_row_0(self):
        self.assertEqual(moved_book([False, False], ("put", 0, True)), [True, False, False])
        self.assertEqual(moved_book([True, True], ("put", 0, False)), [False, True, True])

    def test_put_within(self):
        self.assertEqual(moved_book([False, False, False], ("put", 1, True)), [False, True, False, False])
        self.assertEqual(moved_book([False, False, False], ("put", 2, True)), [False, False, True, False])
        self.assertEqual(moved_book([True, True, True], ("put", 2, False)), [True, True, False, True])

    def test_put_behind_the_last_row(self):
        self.assertEqual(moved_book([False, False], ("put", 2, True)), [False, False, True])
        self.assertEqual(moved_book([True, True], ("put", 2, False)), [True, True, False])

    def test_cut(self):
        book = [True, False, False, True]
        self.assertEqual(moved_book(book, ("cut", 0)), [False, False, True])
        self.assertEqual(moved_book(book, ("cut", 1)), [True, False, True])
        self.assertEqual(moved_book(book, ("cut", 2)), [True, False, True])
        self.assertEqual(moved_book(book, ("cut", 3)), [True, False, False])

    def test_cut_of_the_only_row(self):
        self.assertEqual(moved_book([True], ("cut", 0)), [])
        self.assertEqual(moved_book([False], ("cut", 0)), [])

    def test_all_small_ones(self):
        for many in range(5):
            for book in itertools.product((False, True), repeat=many):
                for deed in deeds_of(many):
                    wanted = list(book)
                    if deed[0] == "put":
                        wanted.insert(deed[1], deed[2])
                    else:
                        del wanted[deed[1]]
                    self.assertEqual(moved_book(list(book), deed), wanted)

    def test_a_cut_takes_back_what_was_put(self):
        book = [True, False, True]
        for at in range(4):
            self.assertEqual(moved_book(moved_book(book, ("put", at, True)), ("cut", at)), book)

    def test_a_thousand_rows(self):
        book = [number % 3 == 0 for number in range(1000)]
        self.assertEqual(moved_book(book, ("cut", 999)), book[:999])
        self.assertEqual(moved_book(book[:999], ("put", 999, book[999])), book)
        self.assertEqual(moved_book(book[1:], ("put", 0, book[0])), book)

    def test_handed_in_is_as_it_was(self):
        for deed in deeds_of(3):
            book = [True, False, True]
            told = moved_book(book, deed)
            self.assertEqual(book, [True, False, True])
            self.assertIs(type(told), list)
            kept = list(told)
            book.clear()
            self.assertEqual(told, kept)
            told.clear()
            self.assertEqual(moved_book([True, False, True], deed), kept)


class MovedMarks(unittest.TestCase):
    def assert_moved(self, first, last, deed, wanted):
        for most in (False, True):
            told = [(PATH, wanted[0], wanted[1], most)] if wanted else []
            self.assertEqual(moved_marks([(PATH, first, last, most)], deed), told)
            self.assertEqual(moved_marks([(PATH, first, last, most)] * 2, deed), told)

    def test_put(self):
        for new in (False, True):
            self.assert_moved(3, 6, ("put", 0, new), (4, 7))
            self.assert_moved(3, 6, ("put", 2, new), (4, 7))
            self.assert_moved(3, 6, ("put", 3, new), (4, 7))
            self.assert_moved(3, 6, ("put", 4, new), (3, 7))
            self.assert_moved(3, 6, ("put", 5, new), (3, 7))
            self.assert_moved(3, 6, ("put", 6, new), (3, 7))
            self.assert_moved(3, 6, ("put", 7, new), (3, 6))
            self.assert_moved(3, 6, ("put", 8, new), (3, 6))

    def test_put_at_a_mark_of_one_row(self):
        self.assert_moved(3, 3, ("put", 2, False), (4, 4))
        self.assert_moved(3, 3, ("put", 3, False), (4, 4))
        self.assert_moved(3, 3, ("put", 4, False), (3, 3))
        self.assert_moved(0, 0, ("put", 0, True), (1, 1))
        self.assert_moved(0, 0, ("put", 1, True), (0, 0))

    def test_put_between_two_rows_that_are_all(self):
        self.assert_moved(0, 1, ("put", 1, False), (0, 2))
        self.assert_moved(0, 1, ("put", 0, False), (1, 2))
        self.assert_moved(0, 1, ("put", 2, False), (0, 1))

    def test_cut(self):
        self.assert_moved(3, 6, ("cut", 0), (2, 5))
        self.assert_moved(3, 6, ("cut", 2), (2, 5))
        self.assert_moved(3, 6, ("cut", 3), (3, 5))
        self.assert_moved(3, 6, ("cut", 4), (3, 5))
        self.assert_moved(3, 6, ("cut", 5), (3, 5))
        self.assert_moved(3, 6, ("cut", 6), (3, 5))
        self.assert_moved(3, 6, ("cut", 7), (3, 6))
        self.assert_moved(3, 6, ("cut", 8), (3, 6))

    def test_cut_at_a_mark_of_one_row(self):
        self.assert_moved(3, 3, ("cut", 2), (2, 2))
        self.assert_moved(3, 3, ("cut", 3), None)
        self.assert_moved(3, 3, ("cut", 4), (3, 3))
        self.assert_moved(0, 0, ("cut", 0), None)

    def test_cut_at_a_mark_of_two_rows(self):
        self.assert_moved(3, 4, ("cut", 3), (3, 3))
        self.assert_moved(3, 4, ("cut", 4), (3, 3))
        self.assert_moved(0, 1, ("cut", 0), (0, 0))

    def test_marks_that_become_the_same(self):
        both = [(PATH, 2, 3, False), (PATH, 2, 4, False)]
        for handed in orders(both):
            self.assertEqual(moved_marks(handed, ("cut", 4)), [(PATH, 2, 3, False)])
        for handed in orders([(PATH, 2, 4, True), (PATH, 3, 4, True)]):
            self.assertEqual(moved_marks(handed, ("cut", 2)), [(PATH, 2, 3, True)])

    def test_marks_that_stay_unlike(self):
        for unlike in ((PATH, 2, 4, True), (("boats",), 2, 4, False), (PATH + ("sails",), 2, 4, False)):
            handed = [(PATH, 2, 3, False), unlike]
            wanted = poured([[(PATH, 2, 3, False), (unlike[0], 2, 3, unlike[3])]])
            self.assertEqual(len(wanted), 2)
            for some in orders(handed):
                self.assertEqual(moved_marks(some, ("cut", 4)), wanted)

    def test_one_is_gone_and_others_stay(self):
        handed = [(PATH, 0, 4, False), (PATH, 2, 2, True), (("boats",), 2, 2, False), (PATH, 3, 3, False)]
        for some in orders(handed):
            self.assertEqual(moved_marks(some, ("cut", 2)), [(PATH, 0, 3, False), (PATH, 2, 2, False)])

    def test_poured_anew(self):
        # The one of most True comes ahead of the cut first, by its last, and behind it second, by most.
        for some in orders([(PATH, 1, 3, True), (PATH, 1, 4, False)]):
            self.assertEqual(moved_marks(some, ("cut", 4)), [(PATH, 1, 3, False), (PATH, 1, 3, True)])
        # The first of these has the lesser first ahead of the cut, and the greater last behind it.
        for some in orders([(PATH, 1, 6, True), (PATH, 2, 4, False)]):
            self.assertEqual(moved_marks(some, ("cut", 1)), [(PATH, 1, 3, False), (PATH, 1, 5, True)])

    def test_order_of_paths(self):
        wanted = [(path, 8, 9, False) for path in PATHS]
        for some in orders([(path, 7, 8, False) for path in PATHS]):
            self.assertEqual(moved_marks(some, ("put", 0, False)), wanted)

    def test_no_marks(self):
        for deed in deeds_of(2):
            self.assertEqual(moved_marks([], deed), [])

    def test_by_the_rows_themselves(self):
        """Each row bears a sign of its own: a mark covers behind the deed what it covered, and what came between."""
        for many in range(1, 6):
            marks = [(PATH, first, last, (first + last) % 2 == 0)
                     for first in range(many) for last in range(first, many)]
            for deed in deeds_of(many):
                signs = list(range(many))
                if deed[0] == "put":
                    signs.insert(deed[1], "new")
                else:
                    signs.remove(deed[1])
                wanted = []
                for path, first, last, most in marks:
                    left = [number for number, sign in enumerate(signs) if sign in range(first, last + 1)]
                    if left:
                        wanted.append((path, left[0], left[-1], most))
                self.assertEqual(moved_marks(marks[::-1], deed), poured([wanted]))
                for mark in moved_marks(marks, deed):
                    self.assertTrue(0 <= mark[1] <= mark[2] < len(signs))

    def test_three_hundred_marks(self):
        marks = [(SIX[:1 + number % 6], number, 999 - number, number % 5 == 0) for number in range(300)]
        told = moved_marks(marks, ("cut", 500))
        self.assertEqual(told, poured([[(path, first, last - 1, most) for path, first, last, most in marks]]))
        self.assertEqual(moved_marks(told, ("put", 500, True)), poured([marks]))

    def test_handed_in_is_as_it_was(self):
        before = [(("b", "c"), 1, 2, False), (("a",), 0, 0, True), (("b", "c"), 1, 2, False)]
        for deed in deeds_of(3):
            marks = list(before)
            told = moved_marks(marks, deed)
            self.assertEqual(marks, before)
            kept = list(told)
            marks.clear()
            self.assertEqual(told, kept)
            told.append(before[0])
            self.assertEqual(moved_marks(before, deed), kept)

    def test_new_tuples_and_kinds(self):
        marks = [(("b", "c"), 1, 2, False), (("a",), 4, 4, True)]
        old = [id(mark) for mark in marks] + [id(mark[0]) for mark in marks]
        for deed in (("put", 5, True), ("put", 0, True), ("cut", 3), ("cut", 0)):
            told = moved_marks(marks, deed)
            self.assertIs(type(told), list)
            self.assertEqual(len(told), 2)
            for mark in told:
                self.assertIs(type(mark), tuple)
                self.assertEqual([type(part) for part in mark], [tuple, int, int, bool])
                self.assertNotIn(id(mark), old)
                self.assertNotIn(id(mark[0]), old)


ONE = [(1, 1, False)]
OTHER = [(1, 2, False)]
STRONG = [(1, 1, True)]
TWO = [(1, 1, False), (3, 4, True)]
STATES = (None, [], ONE, OTHER, STRONG, TWO)


def changes_by_definition(old, new):
    ahead, behind = dict(old), dict(new)
    return [
        (path, ahead.get(path), behind.get(path)) for path in sorted(ahead.keys() | behind.keys(), key=rank)
        if (path in ahead) != (path in behind) or ahead[path] != behind[path]
    ]


class Changes(unittest.TestCase):
    def test_no_entries(self):
        self.assertEqual(changes([], []), [])

    def test_no_entries_on_one_side(self):
        rows = [(("a",), []), (("a", "b"), ONE)]
        self.assertEqual(changes([], rows), [(("a",), None, []), (("a", "b"), None, ONE)])
        self.assertEqual(changes(rows, []), [(("a",), [], None), (("a", "b"), ONE, None)])

    def test_the_same(self):
        for state in STATES[1:]:
            self.assertEqual(changes([(PATH, state)], [(PATH, list(state))]), [])

    def test_each_state_beside_each(self):
        for one, other in itertools.permutations(STATES, 2):
            old = [(PATH, one)] if one is not None else []
            new = [(PATH, other)] if other is not None else []
            self.assertEqual(changes(old, new), [(PATH, one, other)])

    def test_only_what_differs(self):
        old = [(("a",), []), (("a", "b"), ONE), (("c",), TWO), (("d",), ONE)]
        new = [(("a",), []), (("a", "b"), OTHER), (("c",), TWO), (("e",), [])]
        self.assertEqual(changes(old, new), [(("a", "b"), ONE, OTHER), (("d",), ONE, None), (("e",), None, [])])

    def test_order_of_paths(self):
        rows = [(path, ONE) for path in PATHS]
        self.assertEqual(changes(rows, []), [(path, ONE, None) for path in PATHS])
        self.assertEqual(changes([], rows), [(path, None, ONE) for path in PATHS])
        self.assertEqual(
            changes(rows[::2], rows[1::2]),
            [(path, None, ONE) if number % 2 else (path, ONE, None) for number, path in enumerate(PATHS)],
        )
        self.assertEqual(
            changes(rows[1::2], rows[::2]),
            [(path, ONE, None) if number % 2 else (path, None, ONE) for number, path in enumerate(PATHS)],
        )

    def test_same_keys_are_paths_of_their_own(self):
        for one, other in ((("ANN",), ("ann",)), (("a b",), ("b|a",)), (("x", "b|a"), ("x", "a-b"))):
            self.assertEqual(rank(one)[-1][0], rank(other)[-1][0])
            self.assertEqual(changes([(other, ONE)], [(one, ONE)]), [(one, None, ONE), (other, ONE, None)])
            self.assertEqual(changes([(one, ONE)], [(other, ONE)]), [(one, ONE, None), (other, None, ONE)])

    def test_all_small_ones(self):
        paths = (("Z",), ("a",), ("a", "b"))
        sides = list(itertools.product((None, [], ONE, STRONG), repeat=3))
        ordered = sorted(range(3), key=lambda number: rank(paths[number]))
        for one, other in itertools.product(sides, repeat=2):
            old = [(paths[number], one[number]) for number in ordered if one[number] is not None]
            new = [(paths[number], other[number]) for number in ordered if other[number] is not None]
            self.assertEqual(changes(old, new), changes_by_definition(old, new))

    def test_of_entries_of_books(self):
        marks = [(("a", "b"), 0, 1, False), (("c",), 3, 3, True)]
        old = entries([False] * 4, 2, 1, marks)
        new = entries([False] * 4, 1, 1, marks)
        self.assertEqual(changes(old, new), [(("a", "b"), ONE, OTHER), (("c",), [(2, 2, True)], [(4, 4, True)])])
        new = entries([False] * 4, 2, 1, marks[1:])
        self.assertEqual(changes(old, new), [(("a",), [], None), (("a", "b"), ONE, None)])

    def test_as_large_as_promised(self):
        book = [number % 11 == 0 for number in range(1000)]
        marks = [(SIX[:number % 6] + (str(number),), number, 999 - number, number % 5 == 0) for number in range(300)]
        old = entries(book, 4, 1, marks)
        new = entries(book[:-1], 3, 1, marks[1:])
        self.assertEqual(changes(old, new), changes_by_definition(old, new))


class ChangesCopied(unittest.TestCase):
    def test_handed_in_is_as_it_was(self):
        old = [(("a",), []), (("b",), list(ONE)), (("c",), list(TWO))]
        new = [(("b",), list(OTHER)), (("c",), list(TWO)), (("d",), list(STRONG))]
        changes(old, new)
        self.assertEqual(old, [(("a",), []), (("b",), ONE), (("c",), TWO)])
        self.assertEqual(new, [(("b",), OTHER), (("c",), TWO), (("d",), STRONG)])

    def test_told_lists_are_the_askers_own(self):
        old = [(("a",), []), (("b",), list(ONE)), (("e",), [])]
        new = [(("b",), list(OTHER)), (("d",), list(STRONG)), (("e",), list(ONE)), (("f",), [])]
        told = changes(old, new)
        wanted = changes_by_definition(old, new)
        kept = [(path, None if one is None else list(one), None if other is None else list(other))
                for path, one, other in wanted]
        for path, one, other in told:
            for side in (one, other):
                if side is not None:
                    side.append((9, 9, True))
        self.assertEqual(
            told,
            [(path, None if one is None else one + [(9, 9, True)], None if other is None else other + [(9, 9, True)])
             for path, one, other in kept],
        )
        told.clear()
        self.assertEqual(changes(old, new), kept)
        self.assertEqual(old, [(("a",), []), (("b",), ONE), (("e",), [])])
        self.assertEqual(new, [(("b",), OTHER), (("d",), STRONG), (("e",), ONE), (("f",), [])])

    def test_told_lists_stay(self):
        old = [(("b",), list(ONE))]
        new = [(("b",), list(OTHER)), (("d",), list(STRONG))]
        told = changes(old, new)
        for path, stretches in old + new:
            stretches.clear()
        old.clear()
        new.clear()
        changes(old, new)
        self.assertEqual(told, [(("b",), ONE, OTHER), (("d",), None, STRONG)])

    def test_new_tuples_and_kinds(self):
        old = [(("a", "x"), []), (("b",), list(ONE)), (("c",), list(ONE))]
        new = [(("b",), list(OTHER)), (("d",), list(TWO))]
        handed = [id(part) for path, stretches in old + new for part in [path, stretches] + stretches]
        told = changes(old, new)
        self.assertIs(type(told), list)
        self.assertEqual(len(told), 4)
        for change in told:
            self.assertIs(type(change), tuple)
            self.assertIs(type(change[0]), tuple)
            self.assertNotIn(id(change[0]), handed)
            for side in change[1:]:
                if side is not None:
                    self.assertIs(type(side), list)
                    self.assertNotIn(id(side), handed)
                    for stretch in side:
                        self.assertEqual([type(part) for part in stretch], [int, int, bool])
                        self.assertNotIn(id(stretch), handed)


if __name__ == "__main__":
    unittest.main()
