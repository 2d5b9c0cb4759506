import itertools
import random
import unittest

from pageback.columns import best, columns, cost, rows_in
from pageback.entries import entries
from pageback.lines import lines, written
from pageback.sees import ways

LONE, FOOT, UNEVEN = (7, 0, 0), (0, 7, 0), (0, 0, 7)
NONE = (0, 0, 0)
SIXTY_FIGURES = 10 ** 60 - 1
STAIRS = [0, 1, 2, 3, 4, 5]


def all_depths(many):
    """Every list of depths of so many lines as point 22 tells."""
    if many == 0:
        return [[]]
    if many == 1:
        return [[0]]
    return [some + [depth] for some in all_depths(many - 1) for depth in range(min(some[-1] + 1, 5) + 1)]


def some_depths(many, seed):
    chance = random.Random(seed)
    some = [0]
    while len(some) < many:
        some.append(chance.randint(max(0, some[-1] - 2), min(some[-1] + 1, 5)))
    return some[:many]


def above_by_definition(depths, i):
    ahead = [number for number in range(i) if depths[number] < depths[i]]
    return above_by_definition(depths, ahead[-1]) + [ahead[-1]] if ahead else []


def rows_by_definition(depths, i, j):
    return len(above_by_definition(depths, i)) + len(range(i, j))


def cost_by_definition(depths, height, prices, i, j):
    lone, foot, uneven = prices
    many = len(depths)
    has_lone = i > 0 and depths[i] > 0 and (depths[i + 1:i + 2] == [] or depths[i + 1] < depths[i])
    has_foot = j < many and depths[j] > depths[j - 1]
    lack = height - rows_by_definition(depths, i, j) if j < many else 0
    return lone * has_lone + foot * has_foot + uneven * lack ** 2


def columns_that_fit(depths, height):
    carried = [rows_by_definition(depths, i, i) for i in range(len(depths))]
    return [
        (i, j) for i in range(len(depths)) for j in range(i + 1, len(depths) + 1) if carried[i] + j - i <= height
    ]


def all_breaks(depths, height):
    """Every list of breaks of which all columns fit."""
    many = len(depths)
    fitting = set(columns_that_fit(depths, height))
    for size in range(many):
        for inner in itertools.combinations(range(1, many), size):
            breaks = [0, *inner, many]
            if all(one in fitting for one in zip(breaks, breaks[1:])):
                yield breaks


def cost_of(depths, height, prices, breaks):
    return sum(cost_by_definition(depths, height, prices, i, j) for i, j in zip(breaks, breaks[1:]))


class RowsIn(unittest.TestCase):
    def test_from_the_first_line_on(self):
        self.assertEqual(rows_in([0], 0, 1), 1)
        self.assertEqual(rows_in(STAIRS, 0, 1), 1)
        self.assertEqual(rows_in(STAIRS, 0, 6), 6)

    def test_one_line_at_each_depth(self):
        for depth in range(6):
            self.assertEqual(rows_in(STAIRS, depth, depth + 1), depth + 1)

    def test_several_lines(self):
        self.assertEqual(rows_in([0, 1, 1, 0, 0], 1, 4), 4)
        self.assertEqual(rows_in([0, 1, 1, 0, 0], 3, 5), 2)
        self.assertEqual(rows_in(STAIRS + [5, 5, 0], 6, 9), 8)

    def test_lines_ahead_that_are_as_deep_or_deeper(self):
        self.assertEqual(rows_in([0, 1, 1], 2, 3), 2)
        self.assertEqual(rows_in([0, 1, 2, 2, 1], 4, 5), 2)
        self.assertEqual(rows_in([0, 0, 0], 2, 3), 1)
        self.assertEqual(rows_in([0, 1, 2, 0], 3, 4), 1)

    def test_all_small_ones(self):
        for many in range(1, 8):
            for depths in all_depths(many):
                for i in range(many):
                    for j in range(i + 1, many + 1):
                        self.assertEqual(rows_in(depths, i, j), rows_by_definition(depths, i, j))

    def test_kind(self):
        self.assertIs(type(rows_in([0, 1], 1, 2)), int)


class Cost(unittest.TestCase):
    def test_prices_of_nought(self):
        for i, j in columns_that_fit(STAIRS + [1, 0], 8):
            told = cost(STAIRS + [1, 0], 8, NONE, i, j)
            self.assertEqual((told, type(told)), (0, int))

    def test_lone(self):
        self.assertEqual(cost([0, 1, 0], 6, LONE, 1, 2), 7)
        self.assertEqual(cost([0, 1, 0], 6, LONE, 1, 3), 7)
        self.assertEqual(cost([0, 1, 2, 0], 6, LONE, 2, 3), 7)
        self.assertEqual(cost([0, 1, 2, 1], 6, LONE, 2, 4), 7)
        self.assertEqual(cost(STAIRS + [4], 6, LONE, 5, 6), 7)

    def test_lone_at_the_first_line(self):
        self.assertEqual(cost([0], 6, LONE, 0, 1), 0)
        self.assertEqual(cost([0, 0], 6, LONE, 0, 1), 0)
        # A first line that is deeper than point 22 lets it be is none at the head of a further column.
        self.assertEqual(cost([1, 0], 6, LONE, 0, 1), 0)

    def test_lone_at_depth_0(self):
        self.assertEqual(cost([0, 0], 6, LONE, 1, 2), 0)
        self.assertEqual(cost([0, 1, 0, 0], 6, LONE, 2, 3), 0)

    def test_lone_without_a_line_behind(self):
        self.assertEqual(cost([0, 1], 6, LONE, 1, 2), 7)
        self.assertEqual(cost(STAIRS, 6, LONE, 5, 6), 7)

    def test_lone_line_behind_less_deep_as_deep_deeper(self):
        for behind, wanted in ((0, 7), (1, 7), (2, 0), (3, 0)):
            self.assertEqual(cost([0, 1, 2, behind], 6, LONE, 2, 3), wanted)
            self.assertEqual(cost([0, 1, 2, behind], 6, LONE, 2, 4), wanted)

    def test_foot(self):
        for behind, wanted in ((0, 0), (1, 0), (2, 7)):
            self.assertEqual(cost([0, 1, behind], 6, FOOT, 0, 2), wanted)
            self.assertEqual(cost([0, 1, behind], 6, FOOT, 1, 2), wanted)
        self.assertEqual(cost([0, 1], 6, FOOT, 0, 1), 7)

    def test_foot_at_the_end(self):
        self.assertEqual(cost([0], 6, FOOT, 0, 1), 0)
        self.assertEqual(cost(STAIRS, 6, FOOT, 0, 6), 0)
        self.assertEqual(cost(STAIRS, 6, FOOT, 5, 6), 0)

    def test_uneven(self):
        depths = [0] * 20
        for j, wanted in ((6, 0), (5, 7), (4, 28), (3, 63), (1, 175)):
            self.assertEqual(cost(depths, 6, UNEVEN, 0, j), wanted)
            self.assertEqual(cost(depths, 6, UNEVEN, 3, j + 3), wanted)

    def test_uneven_counts_the_rows_carried_on(self):
        depths = STAIRS + [0, 0]
        for i in range(6):
            self.assertEqual(cost(depths, 6, UNEVEN, i, 6), 0)
            self.assertEqual(cost(depths, 8, UNEVEN, i, 6), 28)
            self.assertEqual(cost(depths, 8, UNEVEN, i, 7), 7)

    def test_uneven_at_the_end(self):
        self.assertEqual(cost([0], 6, UNEVEN, 0, 1), 0)
        self.assertEqual(cost([0] * 9, SIXTY_FIGURES, UNEVEN, 3, 9), 0)

    def test_sixty_figures(self):
        self.assertEqual(cost([0, 0], SIXTY_FIGURES, (0, 0, SIXTY_FIGURES), 0, 1),
                         SIXTY_FIGURES * (SIXTY_FIGURES - 1) * (SIXTY_FIGURES - 1))
        self.assertEqual(cost([0, 1, 0, 1], 6, (SIXTY_FIGURES, 0, 0), 1, 3), SIXTY_FIGURES)
        self.assertEqual(cost([0, 1, 0, 1], 6, (0, SIXTY_FIGURES, 0), 1, 3), SIXTY_FIGURES)

    def test_sum_of_all_three(self):
        self.assertEqual(cost([0, 1, 0, 1], 6, (1000, 200, 3), 1, 3), 1000 + 200 + 3 * 3 * 3)
        self.assertEqual(cost([0, 1, 0, 1], 6, (1000, 200, 3), 1, 4), 1000)
        self.assertEqual(cost([0, 1, 0, 1], 6, (1000, 200, 3), 0, 1), 200 + 3 * 5 * 5)

    def test_all_small_ones(self):
        for many in range(1, 7):
            for depths in all_depths(many):
                for height in (6, 7, 40):
                    for i, j in columns_that_fit(depths, height):
                        self.assertEqual(cost(depths, height, (10 ** 9, 10 ** 5, 3), i, j),
                                         cost_by_definition(depths, height, (10 ** 9, 10 ** 5, 3), i, j))


class Best(unittest.TestCase):
    def assert_best(self, depths, height, prices):
        """What is told keeps to points 24 and 25, so that no breaks cost less."""
        breaks, paper = best(depths, height, prices)
        many = len(depths)
        self.assertEqual((breaks[0], breaks[-1]), (0, many))
        self.assertEqual(breaks, sorted(set(breaks)))
        for i, j in zip(breaks, breaks[1:]):
            self.assertLessEqual(rows_by_definition(depths, i, j), height)
        self.assertEqual((len(paper), paper[0]), (many + 1, 0))
        for i, j in columns_that_fit(depths, height):
            self.assertLessEqual(paper[j] - paper[i], cost_by_definition(depths, height, prices, i, j))
        self.assertEqual(paper[-1], cost_of(depths, height, prices, breaks))
        return paper[-1]

    def assert_least(self, depths, height, prices):
        told = self.assert_best(depths, height, prices)
        costs = {
            one: cost_by_definition(depths, height, prices, *one) for one in columns_that_fit(depths, height)
        }
        self.assertEqual(told, min(
            sum(costs[one] for one in zip(breaks, breaks[1:])) for breaks in all_breaks(depths, height)
        ))

    def test_no_lines(self):
        for prices in (NONE, (1, 2, 3), (SIXTY_FIGURES,) * 3):
            self.assertEqual(best([], 6, prices), ([0], [0]))
            self.assertEqual(best([], SIXTY_FIGURES, prices), ([0], [0]))

    def test_one_line(self):
        for prices in (NONE, (1, 2, 3), (SIXTY_FIGURES,) * 3):
            self.assertEqual(best([0], 6, prices), ([0, 1], [0, 0]))

    def test_one_column(self):
        self.assertEqual(best(STAIRS, 6, (1, 1, 1))[0], [0, 6])
        self.assertEqual(best([0, 1, 0, 1, 1], 6, (1, 1, 1))[0], [0, 5])
        self.assertEqual(best([0] * 300, 300, (1, 1, 1))[0], [0, 300])
        self.assertEqual(best([0, 1] * 150, SIXTY_FIGURES, (5, 5, 5))[0], [0, 300])
        self.assertEqual(self.assert_best([0] * 6, 6, (3, 3, 3)), 0)

    def test_just_one_line_too_many(self):
        # Full columns cost nothing, wherever the last one breaks off.
        self.assertEqual(best([0] * 7, 6, (0, 0, 1))[0], [0, 6, 7])
        self.assertEqual(self.assert_best([0] * 7, 6, (0, 0, 1)), 0)

    def test_lone_is_gone_round(self):
        depths = [0, 1, 1, 1, 1, 1, 1, 0, 0]
        # Filled up, the second column would begin with the last of the lines beneath.
        self.assertEqual(cost_of(depths, 6, (5, 0, 0), [0, 6, 9]), 5)
        self.assertEqual(self.assert_best(depths, 6, (5, 0, 0)), 0)
        self.assertEqual(self.assert_best(depths, 6, (5, 0, 1)), 1)
        self.assertEqual(best(depths, 6, (5, 0, 1))[0], [0, 5, 9])
        self.assertEqual(best(depths, 6, (1, 0, 2))[0], [0, 6, 9])

    def test_foot_is_gone_round(self):
        depths = [0, 0, 0, 0, 0, 0, 1, 1]
        self.assertEqual(cost_of(depths, 6, (0, 5, 0), [0, 6, 8]), 5)
        self.assertEqual(best(depths, 6, (0, 5, 1))[0], [0, 5, 8])
        self.assertEqual(best(depths, 6, (0, 1, 2))[0], [0, 6, 8])

    def test_a_cheap_first_column_may_cost_more_in_all(self):
        # The first column is filled up for nothing, but what lies behind then falls worse.
        depths = [0, 0, 0, 0, 0, 0, 1, 2, 2, 2, 2, 2, 0, 1]
        for prices in ((3, 9, 1), (9, 3, 1), (1, 1, 1), (40, 40, 1), (0, 100, 3)):
            self.assert_least(depths, 6, prices)

    def test_rows_carried_on_take_their_place(self):
        depths = STAIRS + [5] * 6
        # Behind the first column each one has room for a single line.
        breaks = best(depths, 6, NONE)[0]
        self.assertEqual(len(breaks), 8)
        self.assert_least(depths, 6, (2, 3, 5))

    def test_every_other_breaks_of_small_ones(self):
        for many in range(1, 9):
            for depths in all_depths(many)[::1 if many < 8 else 7]:
                for prices in ((2, 3, 1), (50, 0, 1), (0, 50, 1)):
                    self.assert_least(depths, 6, prices)

    def test_every_other_breaks_of_some(self):
        for seed in range(12):
            depths = some_depths(9 + seed % 3, seed)
            for prices in (NONE, (1, 1, 1), (9, 4, 1), (0, 0, 1), (1, 30, 2), (60, 1, 1)):
                for height in (6, 7, 9):
                    self.assert_least(depths, height, prices)

    def test_low_heights(self):
        # A height lies beyond point 21 here, and depths keep to it: nothing is refused for it.
        for many in range(1, 7):
            for depths in all_depths(many):
                if max(depths) < 3:
                    self.assert_least(depths, 3, (2, 3, 1))

    def test_height_below_a_depth_is_not_refused(self):
        breaks, paper = best([0, 1, 2], 2, (1, 1, 1))
        self.assertEqual((breaks[0], breaks[-1], len(paper)), (0, 3, 4))

    def test_sixty_figures(self):
        for seed in range(6):
            depths = some_depths(11, seed)
            self.assert_least(depths, 6, (SIXTY_FIGURES, SIXTY_FIGURES - 5, SIXTY_FIGURES // 3))
            self.assert_least(depths, SIXTY_FIGURES, (SIXTY_FIGURES, 3, 1))

    def test_three_hundred_lines(self):
        for height in (6, 20, 47, 400):
            for prices in ((100, 150, 1), (0, 0, 1), (SIXTY_FIGURES, SIXTY_FIGURES, SIXTY_FIGURES)):
                self.assert_best(some_depths(300, height), height, prices)

    def test_the_same_whenever_it_is_asked(self):
        cases = [(some_depths(60, seed), 6 + seed, prices) for seed in range(4) for prices in (NONE, (3, 2, 1))]
        kept = [best(*case) for case in cases]
        kept = [(list(breaks), list(paper)) for breaks, paper in kept]
        for case in cases:
            breaks, paper = best(*case)
            breaks.clear()
            paper[:] = [5]
        self.assertEqual([best(list(case[0]), *case[1:]) for case in reversed(cases)], kept[::-1])

    def test_kinds(self):
        for depths in ([], [0], some_depths(20, 1)):
            told = best(depths, 6, (1, 2, 3))
            self.assertEqual((type(told), len(told)), (tuple, 2))
            for numbers in told:
                self.assertIs(type(numbers), list)
                self.assertEqual({type(number) for number in numbers}, {int})
            self.assertIsNot(told[0], told[1])

    def test_handed_in_is_as_it_was(self):
        depths = some_depths(30, 3)
        kept = list(depths)
        breaks, paper = best(depths, 7, (1, 2, 3))
        told = (list(breaks), list(paper))
        self.assertEqual(depths, kept)
        rows_in(depths, 3, 5)
        cost(depths, 20, (1, 2, 3), 3, 5)
        self.assertEqual(depths, kept)
        depths.clear()
        best(some_depths(30, 4), 7, (1, 2, 3))
        self.assertEqual((breaks, paper), told)


SOME = [
    (0, "de Vries, Ann  3, *5-6*"), (1, "ships"), (2, "masts  1  see sails"), (2, "sails  2"), (1, "sons  4"),
    (0, "sea  also Waters"),
]


class Columns(unittest.TestCase):
    def test_no_lines(self):
        self.assertEqual(columns([], 6, [0]), [])

    def test_one_line(self):
        self.assertEqual(columns([(0, "sea  1")], 6, [0, 1]), [["sea  1"]])

    def test_one_column(self):
        self.assertEqual(columns(SOME, 6, [0, 6]), [[
            "de Vries, Ann  3, *5-6*", "  ships", "    masts  1  see sails", "    sails  2", "  sons  4",
            "sea  also Waters",
        ]])

    def test_first_line_1_deep(self):
        self.assertEqual(columns(SOME, 6, [0, 1, 6])[1], [
            "de Vries, Ann  (on)", "  ships", "    masts  1  see sails", "    sails  2", "  sons  4",
            "sea  also Waters",
        ])

    def test_first_line_2_deep(self):
        self.assertEqual(columns(SOME, 6, [0, 2, 6]), [
            ["de Vries, Ann  3, *5-6*", "  ships"],
            ["de Vries, Ann  (on)", "  ships  (on)", "    masts  1  see sails", "    sails  2", "  sons  4",
             "sea  also Waters"],
        ])

    def test_line_ahead_that_is_as_deep_or_deeper_is_not_carried_on(self):
        self.assertEqual(columns(SOME, 6, [0, 3, 4, 5, 6])[1:], [
            ["de Vries, Ann  (on)", "  ships  (on)", "    sails  2"],
            ["de Vries, Ann  (on)", "  sons  4"],
            ["sea  also Waters"],
        ])

    def test_first_line_5_deep(self):
        some = [(depth, "abcdef"[depth] + "  1") for depth in range(6)] + [(5, "g")]
        carried = ["a  (on)", "  b  (on)", "    c  (on)", "      d  (on)", "        e  (on)"]
        self.assertEqual(columns(some, 6, [0, 5, 6, 7])[1:], [
            carried + ["          f  1"], carried + ["          g"],
        ])

    def test_one_line_at_each_depth(self):
        some = [(depth, "abcdef"[depth] + "  1") for depth in range(6)]
        told = columns(some, 6, [0, 1, 2, 3, 4, 5, 6])
        for depth, rows in enumerate(told):
            self.assertEqual(rows, [" " * 2 * ahead + "abcdef"[ahead] + "  (on)" for ahead in range(depth)]
                             + [" " * 2 * depth + "abcdef"[depth] + "  1"])

    def test_nearest_ahead_not_the_first(self):
        some = [(0, "a"), (1, "b"), (0, "c"), (1, "d"), (2, "e"), (1, "f"), (2, "g"), (2, "h")]
        self.assertEqual(columns(some, 6, [0, 4, 7, 8]), [
            ["a", "  b", "c", "  d"], ["c  (on)", "  d  (on)", "    e", "  f", "    g"],
            ["c  (on)", "  f  (on)", "    h"],
        ])

    def test_text_with_two_blanks_and_without(self):
        for text, head in (("sea", "sea"), ("sea side", "sea side"), ("sea  1  see b", "sea"), ("b c, d  1", "b c, d"),
                           ("sea   1", "sea"), ("sea  ", "sea"), ("see, also  see a  also b; c", "see, also")):
            self.assertEqual(columns([(0, text), (1, "x")], 6, [0, 1, 2]), [[text], [head + "  (on)", "  x"]])

    def test_heights(self):
        # Just as many rows as the column has, more, and sixty figures: the rows are the same, none is filled up.
        for height in (6, 7, SIXTY_FIGURES):
            self.assertEqual([len(rows) for rows in columns(SOME, height, [0, 2, 6])], [2, 6])

    def test_as_many_rows_as_told(self):
        for seed in range(5):
            depths = some_depths(60, seed)
            some = [(depth, "x" + str(number) + "  1") for number, depth in enumerate(depths)]
            breaks = best(depths, 9, (3, 2, 1))[0]
            told = columns(some, 9, breaks)
            self.assertEqual([len(rows) for rows in told], [rows_in(depths, i, j) for i, j in zip(breaks, breaks[1:])])
            self.assertLessEqual(max(len(rows) for rows in told), 9)

    def test_all_small_ones(self):
        for depths in all_depths(5):
            some = [(depth, "abcde"[number] + " b  7") for number, depth in enumerate(depths)]
            for breaks in all_breaks(depths, 6):
                wanted = [
                    ["  " * depths[number] + "abcde"[number] + " b  (on)" for number in above_by_definition(depths, i)]
                    + [written(line) for line in some[i:j]] for i, j in zip(breaks, breaks[1:])
                ]
                self.assertEqual(columns(some, 6, breaks), wanted)

    def test_three_hundred_lines(self):
        depths = some_depths(300, 9)
        some = [(depth, "x" + str(number) + "  1") for number, depth in enumerate(depths)]
        told = columns(some, 6, best(depths, 6, (3, 2, 1))[0])
        kept = [row for rows in told for row in rows if not row.endswith("  (on)")]
        self.assertEqual(kept, [written(line) for line in some])

    def test_told_lists_are_the_askers_own(self):
        some = list(SOME)
        breaks = [0, 3, 6]
        told = columns(some, 6, breaks)
        kept = [list(rows) for rows in told]
        self.assertEqual((some, breaks), (SOME, [0, 3, 6]))
        told[0].clear()
        self.assertEqual(told[1], kept[1])
        told.pop()
        self.assertEqual(columns(some, 6, breaks), kept)
        again = columns(some, 6, breaks)
        some.clear()
        breaks.clear()
        columns([(0, "a")], 6, [0, 1])
        self.assertEqual(again, kept)

    def test_kinds(self):
        told = columns(SOME, 6, [0, 3, 6])
        self.assertIs(type(told), list)
        for rows in told:
            self.assertIs(type(rows), list)
            self.assertEqual({type(row) for row in rows}, {str})


class Read(unittest.TestCase):
    def test_reader_finds_the_lines_again(self):
        """Rows that are carried on left out, each row beneath the nearest one above that is a step less deep."""
        heads = ("a", "B", "x|see", "on", "c d")
        paths = [tuple(heads[(number * 3 + step) % 5] for step in range(1 + number % 6)) for number in range(30)]
        marks = [(path, number, number + 2, number % 3 == 0) for number, path in enumerate(paths)]
        rows = entries([False] * 40, 2, 1, marks)
        found = ways(rows, [(("far", "off"), ("a",), False), (("on",), ("far", "off"), True)])
        some = lines(rows, found)
        depths = [depth for depth, text in some]
        for height in (6, 10, 25):
            breaks = best(depths, height, (5, 4, 1))[0]
            read = []
            for column in columns(some, height, breaks):
                stack = []
                for row in column:
                    depth = (len(row) - len(row.lstrip(" "))) // 2
                    # Carried-on rows make each column readable by itself.
                    self.assertLessEqual(depth, len(stack))
                    stack = stack[:depth] + [row.lstrip(" ").split("  ")[0]]
                    if not row.endswith("  (on)"):
                        read.append((tuple(stack), row.lstrip(" ")))
            stack = []
            wanted = []
            for depth, text in some:
                stack = stack[:depth] + [text.split("  ")[0]]
                wanted.append((tuple(stack), text))
            self.assertEqual(read, wanted)


if __name__ == "__main__":
    unittest.main()
