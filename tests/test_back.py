import itertools
import random
import unittest

from pageback.back import back_pages
from pageback.columns import best, columns, rows_in
from pageback.entries import entries
from pageback.errors import Both, Nowhere, NoText, OutOfBook, PageError, Ring, SentHere, TwoWays
from pageback.heads import path_shown, rank, shown
from pageback.keeper import Keeper
from pageback.lines import lines
from pageback.marks import poured_sees
from pageback.papers import lets_by
from pageback.sees import ways
from pageback.texts import read_hand, shown_hand

SIXTY_FIGURES = 10 ** 60 - 1
PRICES = (5, 5, 1)
SIX = ("a", "b", "c", "d", "e", "f")

BOOK = "book 2 1\nrow\nrow\nrow\nnew\nrow\nrow"
ONE = "hand\ntell 0 2 sea; ships\nmost 3 3 sea; ships\nsee boats > sea; ships"
OTHER = "hand\nalso sea > lakes\ntell 5 5 lakes\ntell 0 0 Ann|de Vries"
COLUMN = ["boats  see sea: ships", "de Vries, Ann  1", "lakes  4", "sea  also lakes", "  ships  1-2, *3*"]


def book_text(book, most, first):
    return "\n".join(["book " + str(most) + " " + str(first)] + ["new" if new else "row" for new in book])


def told_or_refused(book, hands, height=6, prices=PRICES):
    try:
        return back_pages(book, hands, height, prices)
    except PageError as error:
        return type(error), vars(error)


class Pages(unittest.TestCase):
    def test_one_column(self):
        self.assertEqual(back_pages(BOOK, [ONE, OTHER], 6, PRICES), [COLUMN])

    def test_several_columns(self):
        rows = ["tell " + str(number) + " " + str(number) + " sea; " + head for number, head in enumerate("abcdef")]
        told = back_pages(BOOK, ["hand\n" + "\n".join(rows) + "\ntell 0 5 sky"], 6, (0, 0, 1))
        self.assertEqual(told, [
            ["sea", "  a  1", "  b  1", "  c  2", "  d  3", "  e  3"], ["sea  (on)", "  f  4", "sky  1-4"],
        ])

    def test_prices(self):
        # Full columns would have a foot at the first one's end and a lone line at the second one's beginning.
        hand = "hand\ntell 0 0 a\ntell 0 0 b\ntell 0 0 c\ntell 0 0 d\ntell 0 0 e\ntell 1 1 f; x"
        self.assertEqual(back_pages(BOOK, [hand], 6, (9, 0, 1)),
                         [["a  1", "b  1", "c  1", "d  1", "e  1"], ["f", "  x  1"]])
        self.assertEqual(back_pages(BOOK, [hand], 6, (0, 9, 1)),
                         [["a  1", "b  1", "c  1", "d  1", "e  1"], ["f", "  x  1"]])
        self.assertEqual(back_pages(BOOK, [hand], 6, (0, 0, 1)),
                         [["a  1", "b  1", "c  1", "d  1", "e  1", "f"], ["f  (on)", "  x  1"]])

    def test_no_hands(self):
        self.assertEqual(back_pages(BOOK, [], 6, PRICES), [])
        self.assertEqual(back_pages("book 1 0", [], 6, PRICES), [])

    def test_hands_without_rows(self):
        self.assertEqual(back_pages(BOOK, ["hand"], 6, PRICES), [])
        self.assertEqual(back_pages("book 1 0", ["hand", "hand"], 6, PRICES), [])
        self.assertEqual(back_pages(BOOK, ["hand", ONE, "hand", OTHER], 6, PRICES), [COLUMN])

    def test_the_same_hand_twice(self):
        self.assertEqual(back_pages(BOOK, [ONE, OTHER, ONE], 6, PRICES), [COLUMN])

    def test_marks_alone(self):
        self.assertEqual(back_pages("book 1 9\nrow", ["hand\nmost 0 0 a; b; c"], 6, PRICES),
                         [["a", "  b", "    c  *9*"]])

    def test_settings(self):
        hand = "hand\ntell 0 5 a"
        self.assertEqual(back_pages("book 6 0" + "\nrow" * 6, [hand], 6, PRICES), [["a  0"]])
        self.assertEqual(back_pages("book 1 0" + "\nrow" * 6, [hand], 6, PRICES), [["a  0-5"]])
        self.assertEqual(back_pages("book 6 7" + "\nnew" * 6, [hand], 6, PRICES), [["a  7-12"]])
        self.assertEqual(back_pages("book 1 " + "9" * 60 + "\nrow" * 6, [hand], 6, PRICES),
                         [["a  " + "9" * 60 + "-1" + "0" * 59 + "4"]])
        self.assertEqual(back_pages("book " + "9" * 60 + " 1" + "\nrow" * 6, [hand], 6, PRICES), [["a  1"]])

    def test_heights(self):
        hand = "hand\n" + "\n".join("tell 0 0 " + str(number) for number in range(10, 40))
        for height in (6, 7, 29, 30, 31, SIXTY_FIGURES):
            told = back_pages(BOOK, [hand], height, PRICES)
            rows = [row for column in told for row in column]
            self.assertEqual(rows, [str(number) + "  1" for number in range(10, 40)])
            self.assertLessEqual(max(len(column) for column in told), height)
            self.assertEqual(len(told), (29 + height) // height)

    def test_six_heads_in_the_least_height(self):
        rows = ["tell 0 0 a; b; c; d; e; " + head for head in "fgh"]
        told = back_pages(BOOK, ["\n".join(["hand"] + rows)], 6, (0, 0, 0))
        above = ["a  (on)", "  b  (on)", "    c  (on)", "      d  (on)", "        e  (on)"]
        self.assertEqual(told[-1], above + [" " * 10 + "h  1"])
        self.assertTrue(all(len(column) <= 6 for column in told))

    def test_prices_of_sixty_figures(self):
        rows = ["tell 0 0 " + "; ".join(SIX[:1 + number % 6]) + str(number) for number in range(30)]
        self.assertEqual(back_pages(BOOK, ["\n".join(["hand"] + rows)], 9, (SIXTY_FIGURES,) * 3),
                         back_pages(BOOK, ["\n".join(["hand"] + rows)], 9, (1, 1, 1)))

    def test_list_of_texts_stays(self):
        for hands in ([ONE, OTHER], [OTHER, ONE, ONE], ["hand", "bad", "worse"]):
            handed = list(hands)
            told_or_refused(BOOK, handed)
            self.assertEqual(handed, hands)

    def test_told_lists_are_the_askers_own(self):
        hands = [ONE, OTHER]
        told = back_pages(BOOK, hands, 6, PRICES)
        hands.clear()
        self.assertEqual(told, [COLUMN])
        told[0].append("x")
        told.append([])
        self.assertEqual(back_pages(BOOK, [ONE, OTHER], 6, PRICES), [COLUMN])
        back_pages(BOOK, [], 6, PRICES).append([])
        self.assertEqual(back_pages(BOOK, [], 6, PRICES), [])

    def test_kinds(self):
        told = back_pages(BOOK, [ONE, OTHER], 6, PRICES)
        self.assertIs(type(told), list)
        self.assertEqual([type(column) for column in told], [list])
        self.assertEqual({type(row) for row in told[0]}, {str})


class Refused(unittest.TestCase):
    def assert_refused(self, kind, values, book, hands):
        self.assertEqual(told_or_refused(book, hands), (kind, values))

    def assert_in_any_order(self, kind, values, rows):
        """Whatever hands the rows lie in, and in whatever order."""
        for some in itertools.permutations(rows) if len(rows) < 5 else (rows, rows[::-1]):
            self.assert_refused(kind, values, BOOK, ["\n".join(["hand"] + list(some))])
            self.assert_refused(kind, values, BOOK, ["hand\n" + row for row in some])
            self.assert_refused(kind, values, BOOK, ["hand", "\n".join(["hand"] + list(some)), "hand\n" + some[-1]])

    def test_book_that_is_none(self):
        self.assert_refused(NoText, {"row": 1}, "", [])
        self.assert_refused(NoText, {"row": 1}, "book 0 1\nrow", [ONE])
        self.assert_refused(NoText, {"row": 3}, "book 1 1\nrow\nbad\nrow\nbad", [ONE])
        self.assert_refused(NoText, {"row": 8}, BOOK + "\n", [ONE, OTHER])

    def test_hand_that_is_none(self):
        self.assert_refused(NoText, {"row": 1}, BOOK, [""])
        self.assert_refused(NoText, {"row": 5}, BOOK, [ONE + "\n"])
        self.assert_refused(NoText, {"row": 5}, BOOK, [OTHER, ONE + "\ntell 1 2"])
        self.assert_refused(NoText, {"row": 1}, BOOK, [BOOK])

    def test_book_ahead_of_hands(self):
        self.assert_refused(NoText, {"row": 3}, "book 1 1\nrow\nbad", ["bad"])
        self.assert_refused(NoText, {"row": 1}, "bad", ["hand\nbad", "hand\ntell 0 0 a\nbad"])

    def test_hands_in_their_order(self):
        bad = ["hand\ntell 0 0 a\nbad", "bad", "hand\nbad"]
        for some in itertools.permutations(bad):
            self.assert_refused(NoText, {"row": {bad[0]: 3, bad[1]: 1, bad[2]: 2}[some[0]]}, BOOK, list(some))
            self.assert_refused(NoText, {"row": {bad[0]: 3, bad[1]: 1, bad[2]: 2}[some[0]]}, BOOK, [ONE] + list(some))

    def test_text_ahead_of_mark_and_see(self):
        self.assert_refused(NoText, {"row": 2}, BOOK, ["hand\ntell 9 9 a", "hand\nsee a > a", "hand\nbad"])
        self.assert_refused(NoText, {"row": 3}, BOOK, ["hand\nsee a > a\nbad"])

    def test_out_of_book(self):
        self.assert_in_any_order(OutOfBook, {"path": ("a",), "first": 0, "last": 6}, ["tell 0 6 a", "tell 0 5 b"])
        self.assert_in_any_order(OutOfBook, {"path": ("a",), "first": 4, "last": 3}, ["most 4 3 a", "tell 0 5 a"])
        self.assert_in_any_order(OutOfBook, {"path": ("B",), "first": 7, "last": 7},
                                 ["tell 6 6 b", "most 7 7 B", "tell 8 8 B", "tell 0 0 a"])
        self.assert_refused(OutOfBook, {"path": ("a",), "first": 0, "last": 0}, "book 1 1", ["hand\ntell 0 0 a"])
        self.assert_refused(OutOfBook, {"path": ("a",), "first": 0, "last": SIXTY_FIGURES}, BOOK,
                            ["hand\ntell 0 " + "9" * 60 + " a"])

    def test_mark_ahead_of_see(self):
        for see in ("see a > a", "also a > a", "see z > x", "see q > q"):
            self.assert_in_any_order(OutOfBook, {"path": ("z",), "first": 6, "last": 6},
                                     ["tell 6 6 z", see, "tell 0 0 a"])

    def test_sent_here(self):
        for word in ("see", "also"):
            self.assert_in_any_order(SentHere, {"path": ("a", "b")}, [word + " a; b > a; b", "tell 0 0 a"])

    def test_both(self):
        self.assert_in_any_order(Both, {"path": ("a",)}, ["tell 0 0 a", "see a > b", "tell 1 1 b"])

    def test_two_ways(self):
        self.assert_in_any_order(TwoWays, {"path": ("c",)}, ["tell 0 0 a", "tell 1 1 b", "see c > b", "see c > a"])

    def test_ring(self):
        self.assert_in_any_order(Ring, {"ring": [("a",), ("b",)]},
                                 ["see b > a", "see a > b", "also c > b", "tell 0 0 c"])
        self.assert_in_any_order(Ring, {"ring": [("b",), ("d",), ("c",)]},
                                 ["see a > c", "see c > b", "see b > d", "see d > c"])

    def test_nowhere(self):
        self.assert_in_any_order(Nowhere, {"path": ("c",), "goal": ("b",)}, ["tell 0 0 a", "see c > b"])
        self.assert_in_any_order(Nowhere, {"path": ("c",), "goal": ("a",)}, ["tell 0 0 a", "also c > a"])
        self.assert_in_any_order(Nowhere, {"path": ("a",), "goal": ("c",)}, ["tell 0 0 a", "also a > c", "see c > a"])

    def test_the_first_see_as_poured(self):
        self.assert_in_any_order(Nowhere, {"path": ("a",), "goal": ("x",)},
                                 ["see b > b", "see a > x", "see c > d", "see d > c", "tell 0 0 z", "see z > z"])

    def test_refused_again(self):
        for _ in range(2):
            self.assert_refused(Ring, {"ring": [("a",), ("b",)]}, BOOK, ["hand\nsee a > b\nsee b > a"])
            self.assertEqual(back_pages(BOOK, [ONE, OTHER], 6, PRICES), [COLUMN])


class AnyOrder(unittest.TestCase):
    """In whatever order hands are poured together, and marks lie in them, columns and refusals are the same."""

    def test_all_orders_of_few_rows(self):
        rows = ["tell 0 2 sea; ships", "most 2 2 sea; ships", "see boats > sea; ships", "also sea; ships > Sea",
                "tell 5 5 Sea"]
        wanted = [["boats  see sea: ships", "Sea  4", "sea", "  ships  1, *2*  also Sea"]]
        for some in itertools.permutations(rows):
            for cut in range(6):
                hands = ["\n".join(("hand",) + some[:cut]), "\n".join(("hand",) + some[cut:])]
                self.assertEqual(back_pages(BOOK, hands, 6, PRICES), wanted)

    def test_hands_that_are_shuffled(self):
        refusals = set()
        for seed in range(150):
            chance = random.Random(seed)
            book, marks, sees = some_back(chance, may_be_wrong=True)
            text = book_text(book, 3, 1)
            wanted = told_or_refused(text, [shown_hand(marks, sees)], 7)
            refusals.add(wanted[0] if isinstance(wanted, tuple) else None)
            for _ in range(4):
                hands = [([], []) for _ in range(chance.randint(1, 4))]
                for mark in chance.sample(marks, len(marks)) + chance.sample(marks, len(marks) // 2):
                    chance.choice(hands)[0].append(mark)
                for see in chance.sample(sees, len(sees)) + chance.sample(sees, len(sees) // 2):
                    chance.choice(hands)[1].append(see)
                texts = [shown_hand(*hand) for hand in hands]
                self.assertEqual(told_or_refused(text, texts, 7), wanted)
        self.assertTrue({None, OutOfBook, SentHere, Both, TwoWays, Ring, Nowhere} <= refusals, refusals)


PATHS = [
    ("a",), ("a", "b"), ("a", "b", "c"), ("A",), ("A", "x|b"), ("see",), ("see", "also"), ("x|see",), ("1-2",),
    ("1-2", "3"), ("on",), ("q", "r", "s", "t", "u", "v"), ("q", "r"), ("q", "r", "w"), ("Ann|de Vries",), ("c d",),
    ("c d", "e f", "g h"),
]


def some_back(chance, may_be_wrong):
    """A book, marks and sees; sees are right unless they may be wrong."""
    many = chance.randint(1, 25)
    book = [chance.random() < 0.2 for _ in range(many)]
    paths = chance.sample(PATHS, chance.randint(1, 12))
    marks = []
    for _ in range(chance.randint(1, 14)):
        first = chance.randrange(many)
        last = chance.randint(first, min(first + 5, many - 1))
        marks.append((chance.choice(paths), first, last, chance.random() < 0.3))
    sees = []
    # Few paths meet one another more often, in rings and on two ways.
    ends = chance.sample(PATHS, 5) if may_be_wrong else PATHS
    for _ in range(chance.randint(0, 12)):
        see = (chance.choice(ends), chance.choice(ends), chance.random() < 0.5)
        if may_be_wrong and chance.random() < 0.2 or is_right(entries(book, 1, 1, marks), sees + [see]):
            sees.append(see)
    if may_be_wrong and chance.random() < 0.15:
        marks.append((chance.choice(paths), many - 1, many, False))
    return book, marks, sees


def is_right(rows, sees):
    try:
        ways(rows, sees)
    except PageError:
        return False
    return True


def read(told):
    """What a reader of the columns finds for each path as shown: pages with their strength, its end, further ends."""
    found = {}
    stack = []
    for row in [row for column in told for row in column if not row.endswith("  (on)")]:
        depth = (len(row) - len(row.lstrip(" "))) // 2
        parts = row.lstrip(" ").split("  ")
        stack = stack[:depth] + [parts[0]]
        assert len(stack) == depth + 1 and tuple(stack) not in found
        pages, sent, further = {}, None, []
        for part in parts[1:]:
            if part.startswith("see "):
                sent = part[4:]
            elif part.startswith("also "):
                further = part[5:].split("; ")
            else:
                pages = read_pages(part)
        found[tuple(stack)] = (pages, sent, further)
    return found


def read_pages(part):
    pages = {}
    last = None
    for stretch in part.split(", "):
        strong = stretch.startswith("*") and stretch.endswith("*")
        numbers = [int(number) for number in stretch.strip("*").split("-")]
        assert len(numbers) == 1 or numbers[0] < numbers[1]
        # In as few stretches as can be: this one could not have been joined to the one ahead.
        assert last is None or numbers[0] > last[0] + 1 or (numbers[0] == last[0] + 1 and strong != last[1])
        for page in range(numbers[0], numbers[-1] + 1):
            pages[page] = strong
        last = (numbers[-1], strong)
    return pages


def pages_by_definition(book, most, first):
    numbers = []
    for new in book:
        if not numbers:
            numbers.append(first)
        else:
            numbers.append(numbers[-1] + (new or numbers.count(numbers[-1]) == most))
    return numbers


def found_by_definition(book, most, first, marks, sees):
    numbers = pages_by_definition(book, most, first)
    paths = {path[:many] for path in [one[0] for one in marks + sees] for many in range(1, 7)}
    sent_on = {path: goal for path, goal, also in sees if not also}
    wanted = {}
    for path in paths:
        pages = {}
        for own, start, end, strong in marks:
            for row in range(start, end + 1):
                if own == path:
                    pages[numbers[row]] = pages.get(numbers[row], False) or strong
        ends = {False: set(), True: set()}
        for own, goal, also in sees:
            if own == path:
                while goal in sent_on:
                    goal = sent_on[goal]
                ends[also].add(goal)
        sent = [path_shown(end) for end in sorted(ends[False], key=rank)]
        further = [path_shown(end) for end in sorted(ends[True], key=rank)]
        assert len(sent) <= 1
        wanted[tuple(shown(head) for head in path)] = (pages, sent[0] if sent else None, further)
    return wanted


def all_breaks(depths, height):
    many = len(depths)
    for inner in itertools.product((False, True), repeat=max(many - 1, 0)):
        breaks = [0] + [place + 1 for place, there in enumerate(inner) if there] + ([many] if many else [])
        if all(rows_in(depths, i, j) <= height for i, j in zip(breaks, breaks[1:])):
            yield breaks


def cost_by_definition(depths, height, prices, breaks):
    total = 0
    for i, j in zip(breaks, breaks[1:]):
        if i > 0 and depths[i] > 0 and (i + 1 == len(depths) or depths[i + 1] < depths[i]):
            total += prices[0]
        if j < len(depths):
            total += prices[1] * (depths[j] > depths[j - 1]) + prices[2] * (height - depths[i] - (j - i)) ** 2
    return total


def breaks_of(told):
    """Which lines begin and end the columns, as a reader counts them."""
    breaks = [0]
    for column in told:
        breaks.append(breaks[-1] + len([row for row in column if not row.endswith("  (on)")]))
    return breaks


def depths_of(told):
    rows = [row for column in told for row in column if not row.endswith("  (on)")]
    return [(len(row) - len(row.lstrip(" "))) // 2 for row in rows]


class Promise(unittest.TestCase):
    def test_reader_finds_just_what_was_handed_in(self):
        for seed in range(250):
            chance = random.Random(seed)
            book, marks, sees = some_back(chance, may_be_wrong=False)
            most, first = chance.randint(1, 4), chance.randint(0, 5)
            hands = [shown_hand(marks[::2], sees[1::2]), shown_hand(marks[1::2], sees[::2])]
            told = back_pages(book_text(book, most, first), hands, chance.randint(6, 12), PRICES)
            self.assertEqual(read(told), found_by_definition(book, most, first, marks, sees))

    def test_reader_finds_the_order_of_paths(self):
        text = shown_hand([(path, 0, 0, False) for path in PATHS], [])
        told = back_pages("book 1 1\nrow", [text], 6, PRICES)
        paths = {path[:many] for path in PATHS for many in range(1, 7)}
        self.assertEqual(list(read(told)), [tuple(shown(head) for head in path) for path in sorted(paths, key=rank)])

    def test_each_see_leads_to_a_path_that_is_there(self):
        for seed in range(100):
            book, marks, sees = some_back(random.Random(seed), may_be_wrong=False)
            told = back_pages(book_text(book, 2, 1), [shown_hand(marks, sees)], 8, PRICES)
            found = read(told)
            there = {": ".join(path) for path, (pages, sent, further) in found.items()}
            for pages, sent, further in found.values():
                self.assertTrue(set(further) | ({sent} if sent else set()) <= there)

    def test_each_column_says_what_it_goes_on_with(self):
        for seed in range(60):
            book, marks, sees = some_back(random.Random(seed), may_be_wrong=False)
            told = back_pages(book_text(book, 2, 1), [shown_hand(marks, sees)], 6, PRICES)
            stack = []
            for column in told:
                carried = [row for row in column if row.endswith("  (on)")]
                self.assertEqual(column[:len(carried)], carried)
                depth = depths_of([column])[0]
                above = ["  " * number + head + "  (on)" for number, head in enumerate(stack[:depth])]
                self.assertEqual(carried, above)
                for row in column[len(carried):]:
                    deep = (len(row) - len(row.lstrip(" "))) // 2
                    stack = stack[:deep] + [row.lstrip(" ").split("  ")[0]]

    def test_no_other_way_costs_less(self):
        for seed in range(120):
            chance = random.Random(seed)
            book, marks, sees = some_back(chance, may_be_wrong=False)
            height, prices = chance.choice((6, 7, 9)), tuple(chance.choice((0, 1, 4, 30)) for _ in range(3))
            told = back_pages(book_text(book, 2, 1), [shown_hand(marks, sees[:2])], height, prices)
            depths, breaks = depths_of(told), breaks_of(told)
            self.assertTrue(all(len(column) <= height for column in told))
            if len(depths) <= 13:
                costs = [cost_by_definition(depths, height, prices, other) for other in all_breaks(depths, height)]
                self.assertEqual(cost_by_definition(depths, height, prices, breaks), min(costs))
            self.assertIs(lets_by(depths, height, prices, breaks, best(depths, height, prices)[1]), True)

    def test_by_the_steps_of_the_program(self):
        for seed in range(60):
            book, marks, sees = some_back(random.Random(seed), may_be_wrong=False)
            rows = entries(book, 3, 1, marks)
            some = lines(rows, ways(rows, poured_sees([sees])))
            breaks = best([depth for depth, text in some], 7, PRICES)[0]
            self.assertEqual(back_pages(book_text(book, 3, 1), [shown_hand(marks, sees)], 7, PRICES),
                             columns(some, 7, breaks))

    def test_rows_put_in_and_cut(self):
        """A keeper's book and marks, written as texts, make the back pages that its entries tell."""
        for seed in range(40):
            chance = random.Random(seed)
            book, marks, sees = some_back(chance, may_be_wrong=False)
            kept = Keeper(book, 2, 1, marks)
            known = dict(kept.entries_now())
            for _ in range(8):
                rows = kept.rows()
                if rows and chance.random() < 0.5:
                    told = kept.do(("cut", chance.randrange(len(rows))))
                else:
                    told = kept.do(("put", chance.randint(0, len(rows)), chance.random() < 0.3))
                for path, old, new in told:
                    # Each change tells the truth of both sides, and tells of nothing that stayed.
                    self.assertEqual(known.pop(path, None), old)
                    self.assertNotEqual(old, new)
                    if new is not None:
                        known[path] = new
                hand = shown_hand(kept.marks_now(), [])
                self.assertEqual(read_hand(hand)[0], kept.marks_now())
                pages = read(back_pages(book_text(kept.rows(), 2, 1), [hand], 6, PRICES))
                wanted = {}
                for path, told in known.items():
                    numbers = {page: strong for first, last, strong in told for page in range(first, last + 1)}
                    wanted[tuple(shown(head) for head in path)] = (numbers, None, [])
                self.assertEqual(pages, wanted)
                self.assertEqual(kept.entries_now(), sorted(known.items(), key=lambda row: rank(row[0])))

    def test_as_large_as_promised(self):
        book = [number % 11 == 0 for number in range(1000)]
        marks = [(("x" + str(number // 10), "y" + str(number)), number, 999 - number, number % 5 == 0)
                 for number in range(200)]
        sees = [(("z", str(number)), ("z", str(number + 1)), False) for number in range(79)]
        sees.append((("z", "79"), ("x0",), False))
        hands = [shown_hand(marks[start::7], sees[start::7]) for start in range(7)]
        for height, prices in ((6, PRICES), (50, (0, 3, 1)), (SIXTY_FIGURES, (SIXTY_FIGURES,) * 3)):
            told = back_pages(book_text(book, 4, 1), hands, height, prices)
            self.assertEqual(len(depths_of(told)), 301)
            self.assertEqual(read(told), found_by_definition(book, 4, 1, marks, sees))
            self.assertIs(lets_by(depths_of(told), height, prices, breaks_of(told),
                                  best(depths_of(told), height, prices)[1]), True)


if __name__ == "__main__":
    unittest.main()
