import itertools
import random
import unittest

from pageback.columns import best, cost, rows_in
from pageback.papers import lets_by

SIXTY_FIGURES = 10 ** 60 - 1
DEPTHS = [0, 1, 2, 2, 1, 0, 0, 1, 1, 2, 0, 1]
PRICES = (5, 4, 1)


def some_depths(many, seed):
    chance = random.Random(seed)
    some = [0]
    while len(some) < many:
        some.append(chance.randint(max(0, some[-1] - 2), min(some[-1] + 1, 5)))
    return some[:many]


def cost_of(depths, height, prices, breaks):
    return sum(cost(depths, height, prices, i, j) for i, j in zip(breaks, breaks[1:]))


def lets_by_definition(depths, height, prices, breaks, paper):
    many = len(depths)
    places = range(many + 1)
    right = breaks[:1] == [0] and breaks[-1:] == [many] and sorted(set(breaks)) == breaks
    if not right or any(rows_in(depths, i, j) > height for i, j in zip(breaks, breaks[1:])):
        return False
    if len(paper) != many + 1 or paper[0] != 0:
        return False
    fitting = [(i, j) for i in places for j in places if i < j and rows_in(depths, i, j) <= height]
    if any(paper[j] - paper[i] > cost(depths, height, prices, i, j) for i, j in fitting):
        return False
    return paper[-1] == cost_of(depths, height, prices, breaks)


class LetBy(unittest.TestCase):
    def test_what_best_tells(self):
        for seed in range(10):
            depths = some_depths(seed * 4, seed)
            for height in (6, 8, 30, SIXTY_FIGURES):
                for prices in ((0, 0, 0), (1, 1, 1), PRICES, (SIXTY_FIGURES,) * 3):
                    breaks, paper = best(depths, height, prices)
                    self.assertIs(lets_by(depths, height, prices, breaks, paper), True)

    def test_three_hundred_lines(self):
        depths = some_depths(300, 5)
        for height in (6, 40, 400):
            breaks, paper = best(depths, height, PRICES)
            self.assertIs(lets_by(depths, height, PRICES, breaks, paper), True)
            paper[150] += 10 ** 9
            self.assertIs(lets_by(depths, height, PRICES, breaks, paper), False)

    def test_no_lines(self):
        self.assertIs(lets_by([], 6, PRICES, [0], [0]), True)

    def test_one_line(self):
        self.assertIs(lets_by([0], 6, PRICES, [0, 1], [0, 0]), True)

    def test_other_breaks_that_cost_as_little(self):
        depths = [0] * 8
        paper = [0] * 9
        for breaks in ([0, 6, 8], [0, 2, 8], [0, 4, 8], [0, 1, 2, 3, 8], list(range(9))):
            self.assertIs(lets_by(depths, 6, (0, 0, 0), breaks, paper), True)

    def test_other_papers(self):
        breaks, paper = best(DEPTHS, 6, PRICES)
        for place in range(1, len(DEPTHS)):
            lower = list(paper)
            lower[place] -= 1
            self.assertIs(lets_by(DEPTHS, 6, PRICES, breaks, lower),
                          lets_by_definition(DEPTHS, 6, PRICES, breaks, lower))
        # As great as the columns from 0 let them be, and one of them greater.
        self.assertIs(lets_by([0, 0, 0], 6, (0, 0, 1), [0, 3], [0, 25, 16, 0]), True)
        self.assertIs(lets_by([0, 0, 0], 6, (0, 0, 1), [0, 3], [0, 26, 16, 0]), False)
        # As small as the columns up to the end let them be, and one of them smaller.
        self.assertIs(lets_by([0, 1, 0], 6, (5, 0, 0), [0, 3], [0, -5, 0, 0]), True)
        self.assertIs(lets_by([0, 1, 0], 6, (5, 0, 0), [0, 3], [0, -6, 0, 0]), False)


class Breaks(unittest.TestCase):
    def setUp(self):
        self.breaks, self.paper = best(DEPTHS, 6, (0, 0, 0))
        self.assertEqual(self.paper, [0] * 13)

    def assert_not_let_by(self, breaks, depths=DEPTHS, height=6):
        """At prices of 0 nothing but the breaks themselves can be wrong."""
        paper = [0] * (len(depths) + 1)
        self.assertIs(lets_by(depths, height, (0, 0, 0), breaks, paper), False)

    def test_right(self):
        for breaks in (self.breaks, list(range(13)), [0, 4, 6, 9, 12]):
            self.assertIs(lets_by(DEPTHS, 6, (0, 0, 0), breaks, self.paper), True)

    def test_none_at_all(self):
        self.assert_not_let_by([])
        self.assert_not_let_by([], [])

    def test_without_0(self):
        self.assert_not_let_by([1, 6, 12])
        self.assert_not_let_by([4, 6, 9, 12])
        self.assert_not_let_by([12])
        self.assert_not_let_by([1], [0])

    def test_without_the_number_of_lines(self):
        self.assert_not_let_by([0, 4, 6, 9])
        self.assert_not_let_by([0, 4, 6, 9, 11])
        self.assert_not_let_by([0])
        self.assert_not_let_by([0], [0])

    def test_not_rising(self):
        self.assert_not_let_by([0, 6, 4, 9, 12])
        self.assert_not_let_by([0, 9, 6, 4, 12])
        self.assert_not_let_by([12, 9, 6, 4, 0])
        self.assert_not_let_by([0, 4, 6, 9, 12, 9, 12])

    def test_one_twice(self):
        for place in range(5):
            breaks = [0, 4, 6, 9, 12]
            breaks.insert(place, breaks[place])
            self.assert_not_let_by(breaks)
        self.assert_not_let_by([0, 0], [])
        self.assert_not_let_by([0, 0, 1], [0])
        self.assert_not_let_by([0, 1, 1], [0])

    def test_below_0(self):
        self.assert_not_let_by([-1, 0, 4, 6, 9, 12])
        self.assert_not_let_by([-3, 4, 6, 9, 12])
        self.assert_not_let_by([0, -1, 4, 6, 9, 12])
        self.assert_not_let_by([0, -30, -20, 4, 9, 12])
        self.assert_not_let_by([-1, 0], [])
        self.assert_not_let_by([-SIXTY_FIGURES, 0, 4, 6, 9, 12])
        self.assert_not_let_by([0, -SIXTY_FIGURES, 12])

    def test_greater_than_the_number_of_lines(self):
        self.assert_not_let_by([0, 4, 6, 9, 12, 13])
        self.assert_not_let_by([0, 4, 6, 9, 13])
        self.assert_not_let_by([0, 4, 6, 13, 12])
        self.assert_not_let_by([0, 4, 6, 40, 50, 12])
        self.assert_not_let_by([0, 1], [])
        self.assert_not_let_by([1], [])
        self.assert_not_let_by([0, SIXTY_FIGURES])
        self.assert_not_let_by([0, SIXTY_FIGURES, 12])

    def test_column_that_does_not_fit(self):
        self.assert_not_let_by([0, 12])
        # Seven lines, and five with two rows carried on.
        self.assert_not_let_by([0, 5, 12])
        self.assert_not_let_by([0, 7, 10, 12])
        self.assert_not_let_by([0, 3, 8, 12])
        self.assertIs(lets_by(DEPTHS, 7, (0, 0, 0), [0, 3, 8, 12], [0] * 13), True)

    def test_many_breaks(self):
        self.assert_not_let_by(list(range(13)) + list(range(13)))
        self.assert_not_let_by(list(range(-500, 500)))


class Papers(unittest.TestCase):
    def setUp(self):
        self.breaks, self.paper = best(DEPTHS, 6, PRICES)

    def assert_not_let_by(self, paper):
        self.assertIs(lets_by(DEPTHS, 6, PRICES, self.breaks, paper), False)

    def test_right(self):
        self.assertIs(lets_by(DEPTHS, 6, PRICES, self.breaks, self.paper), True)

    def test_none_at_all(self):
        self.assert_not_let_by([])
        self.assertIs(lets_by([], 6, PRICES, [0], []), False)

    def test_too_short(self):
        self.assert_not_let_by(self.paper[:-1])
        self.assert_not_let_by(self.paper[:-2] + self.paper[-1:])
        self.assert_not_let_by([0])
        self.assertIs(lets_by([0, 0], 6, PRICES, [0, 2], [0, 0]), False)

    def test_too_long(self):
        self.assert_not_let_by(self.paper + self.paper[-1:])
        self.assert_not_let_by([0] + self.paper)
        self.assertIs(lets_by([0, 0], 6, PRICES, [0, 2], [0, 0, 0, 0]), False)
        self.assertIs(lets_by([], 6, PRICES, [0], [0, 0]), False)

    def test_first_is_not_0(self):
        self.assert_not_let_by([1] + self.paper[1:])
        self.assert_not_let_by([-1] + self.paper[1:])
        self.assertIs(lets_by([], 6, PRICES, [0], [1]), False)
        self.assertIs(lets_by([], 6, PRICES, [0], [-1]), False)
        # All that follows is greater by as much: but for the first number nothing would be wrong.
        for more in (1, -1, SIXTY_FIGURES):
            self.assertIs(lets_by([0, 0], 6, (0, 0, 0), [0, 2], [more, more, more]), False)
        self.assertIs(lets_by([0] * 7, 6, (0, 0, 1), [0, 6, 7], [1, 0, 0, 0, 0, 0, 0, 0]), False)

    def test_one_number_too_great(self):
        for place in range(1, len(self.paper)):
            for more in (1, 1000, SIXTY_FIGURES):
                paper = list(self.paper)
                paper[place] += more
                self.assert_not_let_by(paper)

    def test_one_number_too_small(self):
        # Less than it may be, so that a column leads on from there to a number that is too great.
        self.assert_not_let_by([0] + [-SIXTY_FIGURES] * 11 + self.paper[-1:])

    def test_column_that_does_not_fit_bounds_nothing(self):
        depths, prices = [0, 1, 1, 1, 1, 1, 1], (9, 0, 1)
        breaks, paper = best(depths, 6, prices)
        # All lines in one column would cost nothing, but do not fit: the breaks may cost more.
        self.assertEqual((breaks, paper[-1], cost(depths, 6, prices, 0, 7)), ([0, 5, 7], 1, 0))
        self.assertIs(lets_by(depths, 6, prices, breaks, paper), True)
        self.assertIs(lets_by(depths, 7, prices, breaks, paper), False)

    def test_last_number_is_not_what_the_breaks_cost(self):
        self.assert_not_let_by(self.paper[:-1] + [self.paper[-1] - 1])
        self.assert_not_let_by(self.paper[:-1] + [self.paper[-1] + 1])
        self.assertIs(lets_by([0], 6, PRICES, [0, 1], [0, -1]), False)
        self.assertIs(lets_by([0], 6, PRICES, [0, 1], [0, 1]), False)

    def test_breaks_that_do_not_cost_the_least(self):
        depths = [0, 0, 0]
        self.assertEqual(best(depths, 6, (0, 0, 1)), ([0, 3], [0, 25, 16, 0]))
        self.assertIs(lets_by(depths, 6, (0, 0, 1), [0, 1, 3], [0, 25, 16, 0]), False)
        self.assertIs(lets_by(depths, 6, (0, 0, 1), [0, 1, 3], [0, 25, 16, 25]), False)
        every = list(range(len(DEPTHS) + 1))
        self.assertGreater(cost_of(DEPTHS, 6, PRICES, every), self.paper[-1])
        self.assertIs(lets_by(DEPTHS, 6, PRICES, every, self.paper), False)
        paper = self.paper[:-1] + [cost_of(DEPTHS, 6, PRICES, every)]
        self.assertIs(lets_by(DEPTHS, 6, PRICES, every, paper), False)

    def test_sixty_figures(self):
        prices = (SIXTY_FIGURES, SIXTY_FIGURES, SIXTY_FIGURES)
        breaks, paper = best(DEPTHS, 6, prices)
        self.assertIs(lets_by(DEPTHS, 6, prices, breaks, paper), True)
        self.assertIs(lets_by(DEPTHS, 6, prices, breaks, paper[:-1] + [paper[-1] - 1]), False)
        self.assertIs(lets_by(DEPTHS, SIXTY_FIGURES, prices, [0, 12], [0] * 13), True)


class AllSmallOnes(unittest.TestCase):
    def test_breaks(self):
        for depths in ([], [0], [0, 1], [0, 0, 1]):
            paper = [0] * (len(depths) + 1)
            for many in range(5):
                for breaks in itertools.product(range(-1, len(depths) + 2), repeat=many):
                    handed = list(breaks)
                    self.assertIs(lets_by(depths, 6, (0, 0, 0), handed, paper),
                                  lets_by_definition(depths, 6, (0, 0, 0), handed, paper))

    def test_papers(self):
        for depths in ([0], [0, 1], [0, 1, 0]):
            for breaks in ([0, len(depths)], list(range(len(depths) + 1))):
                for many in range(len(depths) + 3):
                    for paper in itertools.product(range(-1, 3), repeat=many):
                        handed = list(paper)
                        self.assertIs(lets_by(depths, 6, (1, 1, 0), breaks, handed),
                                      lets_by_definition(depths, 6, (1, 1, 0), breaks, handed))

    def test_let_by_costs_the_least(self):
        depths, prices = [0, 1, 2, 2, 2, 2, 2], (3, 2, 1)
        least = best(depths, 6, prices)[1]
        for inner in itertools.product((False, True), repeat=6):
            breaks = [0] + [place + 1 for place, there in enumerate(inner) if there] + [7]
            fit = all(rows_in(depths, i, j) <= 6 for i, j in zip(breaks, breaks[1:]))
            wanted = fit and cost_of(depths, 6, prices, breaks) == least[-1]
            self.assertIs(lets_by(depths, 6, prices, breaks, least), wanted)


class Copies(unittest.TestCase):
    def test_handed_in_is_as_it_was(self):
        depths = list(DEPTHS)
        breaks, paper = best(depths, 6, PRICES)
        kept = (list(breaks), list(paper))
        self.assertIs(lets_by(depths, 6, PRICES, breaks, paper), True)
        self.assertEqual((depths, (breaks, paper)), (DEPTHS, kept))
        self.assertIs(lets_by(depths, 6, PRICES, [0, 12], paper), False)
        self.assertEqual((depths, paper), (DEPTHS, kept[1]))

    def test_the_same_whenever_it_is_asked(self):
        breaks, paper = best(DEPTHS, 6, PRICES)
        for _ in range(2):
            self.assertIs(lets_by(DEPTHS, 6, PRICES, breaks, paper), True)
            self.assertIs(lets_by(DEPTHS, 6, PRICES, breaks, paper[:-1]), False)
            self.assertIs(lets_by([0], 6, PRICES, [0, 1], [0, 0]), True)


if __name__ == "__main__":
    unittest.main()
