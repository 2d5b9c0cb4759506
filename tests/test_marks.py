import itertools
import unittest

from pageback.heads import rank
from pageback.marks import fits, poured, poured_sees

SIXTY_FIGURES = 10 ** 60 - 1
PATH = ("ships",)

# Paths in their order: the same keys with letters of two sizes, with a turn, and paths beneath one another.
PATHS = [
    ("-",), ("A",), ("A", "z"), ("a",), ("a", "A"), ("a", "a"), ("a", "a", "a"), ("a b",), ("b|a",), ("a-b",), ("ab",),
    ("B",), ("c", "d", "e", "f", "g", "h"),
]


def mark_of(first, last):
    return (PATH, first, last, False)


class Fits(unittest.TestCase):
    def does(self, first, last, many):
        for most in (False, True):
            self.assertIs(fits((PATH, first, last, most), many), True, (first, last, many))

    def does_not(self, first, last, many):
        for most in (False, True):
            self.assertIs(fits((PATH, first, last, most), many), False, (first, last, many))

    def test_first(self):
        self.does_not(-1, 3, 9)
        self.does_not(-1, -1, 9)
        self.does(0, 3, 9)
        self.does(1, 3, 9)

    def test_last_beside_first(self):
        self.does_not(4, 3, 9)
        self.does(4, 4, 9)
        self.does(4, 5, 9)
        self.does_not(0, -1, 9)

    def test_last_beside_the_number_of_rows(self):
        self.does(4, 8, 9)
        self.does(8, 8, 9)
        self.does_not(4, 9, 9)
        self.does_not(9, 9, 9)
        self.does_not(4, 10, 9)
        self.does_not(9, 8, 9)

    def test_one_row_and_none(self):
        self.does(0, 0, 1)
        self.does_not(0, 1, 1)
        self.does_not(0, 0, 0)
        self.does_not(0, -1, 0)
        self.does_not(-1, -1, 0)

    def test_sixty_figures(self):
        self.does_not(0, SIXTY_FIGURES, 1000)
        self.does_not(SIXTY_FIGURES, SIXTY_FIGURES, 1000)
        self.does_not(-SIXTY_FIGURES, 3, 1000)
        self.does_not(-SIXTY_FIGURES, SIXTY_FIGURES, 1000)
        self.does_not(3, -SIXTY_FIGURES, 1000)
        self.does(SIXTY_FIGURES - 1, SIXTY_FIGURES - 1, SIXTY_FIGURES)
        self.does_not(SIXTY_FIGURES - 1, SIXTY_FIGURES, SIXTY_FIGURES)
        self.does_not(SIXTY_FIGURES - 1, SIXTY_FIGURES - 2, SIXTY_FIGURES)

    def test_all_small_ones(self):
        for many, first, last in itertools.product(range(5), range(-3, 7), range(-3, 7)):
            rows = list(range(first, last + 1))
            wanted = len(rows) > 0 and all(row in range(many) for row in rows)
            self.assertIs(fits(mark_of(first, last), many), wanted, (first, last, many))

    def test_mark_of_several_heads(self):
        self.assertIs(fits((("a", "Ann|de Vries", "c"), 2, 3, True), 4), True)


class Pouring(unittest.TestCase):
    """What holds for marks and for sees, `wanted` being such in their order, each once."""

    def assert_poured(self, pour, wanted):
        self.assertEqual(pour([wanted]), wanted)
        self.assertEqual(pour([wanted[::-1]]), wanted)
        self.assertEqual(pour([wanted, wanted[::-1]]), wanted)
        self.assertEqual(pour([wanted + wanted, []]), wanted)
        self.assertEqual(pour([[one] for one in wanted]), wanted)
        self.assertEqual(pour([[one] for one in reversed(wanted)]), wanted)
        self.assertEqual(pour([[], wanted[1::2], wanted[::2], []]), wanted)
        for one, other in itertools.combinations(wanted, 2):
            for hands in ([[one, other]], [[other, one]], [[one], [other]], [[other], [one]], [[other, one, other]]):
                self.assertEqual(pour(hands), [one, other])

    def assert_nothing_kept(self, pour, wanted):
        hands = [wanted[::-1], [], wanted[:2] * 2]
        before = [list(hand) for hand in hands]
        inner = list(hands)
        told = pour(hands)
        self.assertEqual(hands, before)
        for hand, same in zip(hands, inner, strict=True):
            self.assertIs(hand, same)
        hands[0].clear()
        hands.clear()
        self.assertEqual(told, wanted)
        again = pour(before)
        told.clear()
        self.assertEqual(again, wanted)
        self.assertEqual(pour(before), wanted)
        again.append(wanted[0])
        self.assertEqual(pour([]), [])

    def assert_new(self, told, handed):
        """The tuples told, and those in them, are none of those handed in."""
        old = [id(one) for one in handed] + [id(part) for one in handed for part in one if isinstance(part, tuple)]
        for one in told:
            self.assertIs(type(one), tuple)
            self.assertNotIn(id(one), old)
            for part in one:
                if isinstance(part, tuple):
                    self.assertNotIn(id(part), old)


class Poured(Pouring):
    def test_no_hands_and_no_marks(self):
        self.assertEqual(poured([]), [])
        self.assertEqual(poured([[]]), [])
        self.assertEqual(poured([[], []]), [])

    def test_own_empty_lists(self):
        hands = [[]]
        told = poured(hands)
        told.append(mark_of(0, 0))
        self.assertEqual(hands, [[]])
        self.assertEqual(poured(hands), [])
        self.assertEqual(poured([]), [])

    def test_one_mark(self):
        mark = (("a", "b"), 2, 5, True)
        self.assertEqual(poured([[mark]]), [mark])
        self.assertEqual(poured([[mark, mark]]), [mark])
        self.assertEqual(poured([[mark], [mark]]), [mark])
        self.assertEqual(poured([[mark], [], [tuple(list(mark))]]), [mark])

    def test_by_first_then_last_then_most(self):
        self.assert_poured(poured, [
            (PATH, 0, 9, True), (PATH, 2, 3, False), (PATH, 2, 3, True), (PATH, 2, 4, False), (PATH, 2, 10, False),
            (PATH, 3, 3, False), (PATH, 10, 10, False), (PATH, 10, 10, True),
        ])

    def test_by_paths_first(self):
        self.assert_poured(poured, [(path, 20 - number, 20, number == 3) for number, path in enumerate(PATHS)])

    def test_all_parts_together(self):
        self.assert_poured(poured, [
            (path, first, last, most)
            for path in PATHS[:4] for first in (0, 2) for last in (3, 11) for most in (False, True)
        ])

    def test_like_keys_are_two_paths(self):
        for one, other in ((("ANN",), ("ann",)), (("a b",), ("b|a",)), (("x", "b|a"), ("x", "a-b"))):
            self.assertEqual(rank(one)[-1][0], rank(other)[-1][0])
            self.assert_poured(poured, [(one, 5, 5, False), (other, 5, 5, False)])
            self.assert_poured(poured, [(one, 6, 7, True), (other, 5, 5, False)])

    def test_marks_that_fit_no_book(self):
        self.assert_poured(poured, [
            mark_of(-SIXTY_FIGURES, 0), mark_of(-1, -2), mark_of(5, -5), mark_of(5, 4), mark_of(5, SIXTY_FIGURES),
            mark_of(SIXTY_FIGURES - 1, 0), mark_of(SIXTY_FIGURES, 0),
        ])

    def test_hands_turned_about(self):
        marks = [(path, first, 7, most) for path in PATHS[2:5] for first in (7, 1) for most in (True, False)]
        hands = [marks[:5], marks[3:8], [], marks[8:] + marks[:1]]
        wanted = poured(hands)
        self.assertEqual(wanted, sorted(set(marks), key=lambda mark: (PATHS.index(mark[0]),) + mark[1:]))
        for turned in itertools.permutations(hands):
            self.assertEqual(poured(list(turned)), wanted)
            self.assertEqual(poured([hand[::-1] for hand in turned]), wanted)

    def test_nothing_handed_in_is_changed_or_kept(self):
        self.assert_nothing_kept(poured, [(path, 3, 4, False) for path in PATHS])

    def test_new_tuples(self):
        handed = [(path, 3, 4, False) for path in PATHS]
        self.assert_new(poured([handed]), handed)

    def test_three_hundred_marks(self):
        marks = [(("a", str(number % 7)), number % 50, 60, number % 2 == 0) for number in range(300)]
        told = poured([marks[:100], marks[100:]])
        self.assertEqual(told, sorted(set(marks), key=lambda mark: (rank(mark[0]),) + mark[1:]))
        self.assertEqual(poured([marks[::-1]]), told)


class PouredSees(Pouring):
    def test_no_hands_and_no_sees(self):
        self.assertEqual(poured_sees([]), [])
        self.assertEqual(poured_sees([[]]), [])
        self.assertEqual(poured_sees([[], []]), [])

    def test_one_see(self):
        see = (("a", "b"), ("c",), False)
        self.assertEqual(poured_sees([[see]]), [see])
        self.assertEqual(poured_sees([[see, see]]), [see])
        self.assertEqual(poured_sees([[see], [], [tuple(list(see))]]), [see])

    def test_also_comes_behind_whatever_the_goals(self):
        self.assert_poured(poured_sees, [
            (PATH, ("b",), False), (PATH, ("z",), False), (PATH, ("a",), True), (PATH, ("b",), True),
        ])

    def test_several_goals(self):
        for also in (False, True):
            self.assert_poured(poured_sees, [(PATH, goal, also) for goal in PATHS])

    def test_by_paths_first(self):
        self.assert_poured(poured_sees, [
            (path, PATHS[-number], number % 3 == 0) for number, path in enumerate(PATHS)
        ])

    def test_all_parts_together(self):
        self.assert_poured(poured_sees, [
            (path, goal, also) for path in PATHS[1:6] for also in (False, True) for goal in PATHS[6:9]
        ])

    def test_hands_turned_about(self):
        wanted = [(path, goal, also) for path in PATHS[6:8] for also in (False, True) for goal in PATHS[8:10]]
        hands = [wanted[4:], wanted[2:5], [], wanted[:3][::-1]]
        for turned in itertools.permutations(hands):
            self.assertEqual(poured_sees(list(turned)), wanted)
            self.assertEqual(poured_sees([hand[::-1] for hand in turned]), wanted)

    def test_goal_that_is_the_path(self):
        self.assert_poured(poured_sees, [(PATH, ("a",), False), (PATH, PATH, False), (PATH, PATH, True)])

    def test_nothing_handed_in_is_changed_or_kept(self):
        self.assert_nothing_kept(poured_sees, [(path, PATH, True) for path in PATHS])

    def test_new_tuples(self):
        handed = [(path, ("a", "b"), False) for path in PATHS]
        self.assert_new(poured_sees([handed]), handed)


if __name__ == "__main__":
    unittest.main()
