import itertools
import unittest

from pageback.entries import entries
from pageback.heads import path_shown, rank, shown
from pageback.lines import lines, written
from pageback.sees import ways

A, B, C = ("a",), ("b",), ("c",)
SEA = ("sea",)
WATERS = ("waters",)
LAKES = ("waters", "lakes")
ANN = ("Ann|de Vries",)
ANN_SHIPS = ("Ann|de Vries", "her|ships")
SIX = ("a", "b", "c", "d", "e", "f")
SIXTY_FIGURES = 10 ** 60 - 1
ROWS = [(SEA, [(1, 2, False), (4, 4, True)]), (WATERS, []), (LAKES, [(3, 3, False)])]


def see(path, goal):
    return (path, goal, False)


def also(path, goal):
    return (path, goal, True)


def lines_of(rows, sees):
    return lines(rows, ways(rows, sees))


class Entries(unittest.TestCase):
    def assert_text(self, stretches, wanted):
        self.assertEqual(lines([(SEA, stretches)], []), [(0, wanted)])

    def test_nothing(self):
        self.assertEqual(lines([], []), [])

    def test_without_stretches(self):
        self.assert_text([], "sea")

    def test_one_page(self):
        self.assert_text([(7, 7, False)], "sea  7")
        self.assert_text([(7, 7, True)], "sea  *7*")
        self.assert_text([(0, 0, False)], "sea  0")

    def test_several_pages(self):
        self.assert_text([(7, 8, False)], "sea  7-8")
        self.assert_text([(7, 12, True)], "sea  *7-12*")
        self.assert_text([(0, 1, True)], "sea  *0-1*")

    def test_several_stretches(self):
        self.assert_text([(1, 2, False), (3, 3, True), (4, 4, False)], "sea  1-2, *3*, 4")
        self.assert_text([(1, 2, True), (9, 9, False), (10, 12, True), (20, 21, False)],
                         "sea  *1-2*, 9, *10-12*, 20-21")

    def test_pages_of_sixty_figures(self):
        nines = "9" * 60
        self.assert_text([(SIXTY_FIGURES, SIXTY_FIGURES, False)], "sea  " + nines)
        self.assert_text([(SIXTY_FIGURES, SIXTY_FIGURES + 2, True)], "sea  *" + nines + "-1" + "0" * 59 + "1*")

    def test_depths_and_last_heads(self):
        rows = [(SIX[:many], [(many, many, False)] if many % 2 else []) for many in range(1, 7)]
        self.assertEqual(lines(rows, []), [(0, "a  1"), (1, "b"), (2, "c  3"), (3, "d"), (4, "e  5"), (5, "f")])

    def test_turned_head(self):
        rows = [(ANN, [(3, 3, False)]), (ANN_SHIPS, [(4, 5, True)])]
        self.assertEqual(lines(rows, []), [(0, "de Vries, Ann  3"), (1, "ships, her  *4-5*")])

    def test_same_keys_are_lines_of_their_own(self):
        paths = [("A",), ("A", "x"), ("a",), ("a", "x"), ("a b",), ("b|a",), ("a-b",), ("ab",)]
        self.assertEqual(lines([(path, [(1, 1, False)]) for path in paths], []), [
            (0, "A  1"), (1, "x  1"), (0, "a  1"), (1, "x  1"), (0, "a b  1"), (0, "a, b  1"), (0, "a-b  1"),
            (0, "ab  1"),
        ])


class Sees(unittest.TestCase):
    def test_path_is_no_entry(self):
        self.assertEqual(lines_of(ROWS, [see(("oceans",), SEA)]), [
            (0, "oceans  see sea"), (0, "sea  1-2, *4*"), (0, "waters"), (1, "lakes  3"),
        ])

    def test_path_beneath_an_entry(self):
        self.assertEqual(lines_of(ROWS, [see(SEA + ("ponds",), LAKES), see(WATERS + ("salt",), SEA)]), [
            (0, "sea  1-2, *4*"), (1, "ponds  see waters: lakes"), (0, "waters"), (1, "lakes  3"), (1, "salt  see sea"),
        ])

    def test_paths_above_are_no_entries(self):
        self.assertEqual(lines_of(ROWS, [see(("b", "c", "d"), SEA)]), [
            (0, "b"), (1, "c"), (2, "d  see sea"), (0, "sea  1-2, *4*"), (0, "waters"), (1, "lakes  3"),
        ])

    def test_path_above_has_a_see_too(self):
        self.assertEqual(lines_of(ROWS, [see(("b", "c", "d"), SEA), see(("b",), LAKES)])[:3], [
            (0, "b  see waters: lakes"), (1, "c"), (2, "d  see sea"),
        ])

    def test_path_is_an_entry_without_stretches(self):
        self.assertEqual(lines_of(ROWS, [see(WATERS, SEA)]), [
            (0, "sea  1-2, *4*"), (0, "waters  see sea"), (1, "lakes  3"),
        ])

    def test_end_not_goal(self):
        self.assertEqual(lines_of(ROWS, [see(A, B), see(B, LAKES)])[:2], [
            (0, "a  see waters: lakes"), (0, "b  see waters: lakes"),
        ])
        self.assertEqual(lines_of(ROWS, [also(SEA, B), see(B, LAKES)])[:2], [
            (0, "b  see waters: lakes"), (0, "sea  1-2, *4*  also waters: lakes"),
        ])

    def test_goal_alone_has_no_line(self):
        # What ways tells is taken as it is: neither the goal nor the end gets a line by itself.
        self.assertEqual(lines([], [(A, B, False, C, 2)]), [(0, "a  see c")])

    def test_also(self):
        self.assertEqual(lines_of(ROWS, [also(SEA, LAKES)])[0], (0, "sea  1-2, *4*  also waters: lakes"))
        self.assertEqual(lines_of(ROWS, [also(WATERS, SEA)])[1:], [(0, "waters  also sea"), (1, "lakes  3")])

    def test_see_and_also(self):
        self.assertEqual(lines_of(ROWS, [also(WATERS, LAKES), see(WATERS, SEA)])[1:], [
            (0, "waters  see sea  also waters: lakes"), (1, "lakes  3"),
        ])

    def test_several_also_in_the_order_of_paths(self):
        rows = ROWS[:1] + [(("ships",), [(9, 9, False)])] + ROWS[1:]
        found = [(("ships",), goal, True, goal, 1) for goal in (LAKES, SEA, WATERS)]
        for handed in itertools.permutations(found):
            self.assertEqual(lines(rows, list(handed))[1], (0, "ships  9  also sea; waters; waters: lakes"))

    def test_order_is_that_of_ends_not_of_goals(self):
        rows = ROWS[:1] + [(("ships",), [(9, 9, False)])] + ROWS[1:]
        told = lines_of(rows, [also(("ships",), A), also(("ships",), B), see(A, WATERS), see(B, SEA)])
        self.assertIn((0, "ships  9  also sea; waters"), told)

    def test_order_is_by_keys(self):
        ends = [("B",), ("a",), ("A",), ("b|a",), ANN]
        found = [(SEA, end, True, end, 1) for end in ends]
        self.assertEqual(lines([(SEA, [])], found), [(0, "sea  also A; a; a, b; B; de Vries, Ann")])

    def test_same_end_once(self):
        told = lines_of(ROWS, [also(SEA, A), also(SEA, B), also(SEA, LAKES), see(A, B), see(B, LAKES)])
        self.assertEqual(told[2], (0, "sea  1-2, *4*  also waters: lakes"))
        told = lines_of(ROWS, [also(SEA, A), also(SEA, WATERS), also(SEA, LAKES), see(A, LAKES)])
        self.assertEqual(told[1], (0, "sea  1-2, *4*  also waters; waters: lakes"))

    def test_ends_with_the_same_key_are_told_each(self):
        found = [(SEA, end, True, end, 1) for end in (("a",), ("A",), ("-a",))]
        self.assertEqual(lines([(SEA, [])], found), [(0, "sea  also -a; A; a")])

    def test_see_and_also_with_the_same_end(self):
        rows = [(SEA, [(1, 1, False)]), (WATERS, []), (LAKES, [(3, 3, False)])]
        told = lines_of(rows, [see(WATERS, SEA), also(WATERS, A), see(A, SEA)])
        self.assertEqual(told[2], (0, "waters  see sea  also sea"))

    def test_turned_heads(self):
        rows = [(ANN, []), (ANN_SHIPS, [(4, 5, True)]), (SEA, [(1, 1, False)])]
        self.assertEqual(lines_of(rows, [see(("ships", "x|of y"), SEA)])[-1], (1, "of y, x  see sea"))
        self.assertEqual(lines_of(rows, [also(SEA, ANN_SHIPS)])[2], (0, "sea  1  also de Vries, Ann: ships, her"))
        self.assertEqual(lines_of(rows, [also(ANN_SHIPS, ANN), see(ANN, SEA)]), [
            (0, "de Vries, Ann  see sea"), (1, "ships, her  *4-5*  also sea"), (0, "sea  1"),
        ])
        self.assertEqual(lines_of(rows, [also(ANN, ANN_SHIPS), also(ANN, SEA)])[0],
                         (0, "de Vries, Ann  also de Vries, Ann: ships, her; sea"))

    def test_six_heads(self):
        self.assertEqual(lines_of(ROWS, [see(SIX, LAKES)])[:6], [
            (0, "a"), (1, "b"), (2, "c"), (3, "d"), (4, "e"), (5, "f  see waters: lakes"),
        ])
        rows = [(SIX[:many], []) for many in range(1, 6)] + [(SIX, [(1, 1, False)])]
        self.assertEqual(lines_of(rows, [see(("z",), SIX)])[-1], (0, "z  see a: b: c: d: e: f"))

    def test_order_of_all_lines(self):
        rows = [(("a",), []), (("a", "c"), [(1, 1, False)]), (("Aa",), [(2, 2, False)])]
        told = lines_of(rows, [see(("a", "B"), ("Aa",)), see(("A",), ("Aa",)), see(("a", "c", "-"), ("Aa",))])
        self.assertEqual(told, [
            (0, "A  see Aa"), (0, "a"), (1, "B  see Aa"), (1, "c  1"), (2, "-  see Aa"), (0, "Aa  2"),
        ])


class Written(unittest.TestCase):
    def test_depths(self):
        self.assertEqual(written((0, "sea  1")), "sea  1")
        self.assertEqual(written((1, "sea  1")), "  sea  1")
        self.assertEqual(written((2, "lakes")), "    lakes")
        self.assertEqual(written((5, "a  see b: c")), "          a  see b: c")

    def test_text_as_it_is(self):
        for text in ("x", "de Vries, Ann", "a  1-2, *3*  see b  also c; d", "a" * 500, "  a ", ""):
            for depth in range(6):
                self.assertEqual(written((depth, text)), depth * 2 * " " + text)


def text_by_definition(path, stretches, found):
    text = shown(path[-1])
    for number, (first, last, strong) in enumerate(stretches):
        text += (", " if number else "  ") + "*" * strong + str(first)
        text += ("" if first == last else "-" + str(last)) + "*" * strong
    sent = {end for start, goal, is_also, end, steps in found if start == path and not is_also}
    further = {end for start, goal, is_also, end, steps in found if start == path and is_also}
    for word, ends in (("see", sent), ("also", further)):
        if ends:
            text += "  " + word + " " + "; ".join(path_shown(end) for end in sorted(ends, key=rank))
    return text


def lines_by_definition(rows, found):
    stretches = dict(rows)
    paths = set(stretches)
    for one in found:
        paths |= {one[0][:many] for many in range(1, 7)}
    return [
        (len(path) - 1, text_by_definition(path, stretches.get(path, []), found)) for path in sorted(paths, key=rank)
    ]


class AllSmallOnes(unittest.TestCase):
    def test_four_paths(self):
        paths = (("z|b",), ("a",), ("a", "b"), ("a", "b", "C"))
        states = (None, [], [(1, 1, False)], [(1, 2, True), (4, 4, False)])
        possible = [(path, goal, is_also, goal, 1) for path in paths for goal in (("z|b",), ("a", "b"), ("q", "r"))
                    for is_also in (False, True)]
        possible = [one for one in possible if one[0] != one[1]]
        some = [found for many in range(3) for found in itertools.combinations(possible, many)]
        some = [found for found in some if len({one[0] for one in found if not one[2]}) == sum(
            1 for one in found if not one[2])]
        for state in itertools.product(states, repeat=4):
            rows = sorted([(path, told) for path, told in zip(paths, state) if told is not None],
                          key=lambda row: rank(row[0]))
            for found in some:
                self.assertEqual(lines(rows, list(found)), lines_by_definition(rows, found))


def read(told):
    """What a reader of lines finds: for each path as shown its pages with their strength, its end, its further ends."""
    found = {}
    stack = []
    for depth, text in told:
        parts = text.split("  ")
        stack = stack[:depth] + [parts[0]]
        assert len(stack) == depth + 1 and tuple(stack) not in found
        pages, sent, further = {}, None, []
        for part in parts[1:]:
            if part.startswith("see "):
                sent = part[4:]
            elif part.startswith("also "):
                further = part[5:].split("; ")
            else:
                read_pages(part, pages)
        found[tuple(stack)] = (pages, sent, further)
    return found


def read_pages(part, pages):
    for stretch in part.split(", "):
        first, dash, last = stretch.strip("*").partition("-")
        for page in range(int(first), int(last or first) + 1):
            assert page not in pages
            pages[page] = stretch.startswith("*") and stretch.endswith("*")


class Read(unittest.TestCase):
    def test_reader_finds_just_what_was_handed_in(self):
        heads = ("a", "B", "x|see", "also", "1-2")
        paths = [tuple(heads[(number + step) % 5] for step in range(1 + number % 6)) for number in range(40)]
        marks = [(path, number, number + number % 7, number % 3 == 0) for number, path in enumerate(paths[:25])]
        book = [number % 4 == 0 for number in range(40)]
        rows = entries(book, 3, 1, marks)
        there = {path for path, told in rows}
        sees = [see(("far", "off"), ("a",)), see(("far",), ("far", "off")), also(("also",), ("far",)),
                also(("also",), ("a",)), also(("also",), ("B",)), also(("a",), ("x|see",))]
        self.assertTrue({("a",), ("B",), ("also",), ("x|see",)} <= there)
        numbers = []
        for new in book:
            if numbers and (new or numbers.count(numbers[-1]) == 3):
                numbers.append(numbers[-1] + 1)
            else:
                numbers.append(numbers[-1] if numbers else 1)
        wanted = {}
        for path in there | {("far",), ("far", "off")}:
            pages = {}
            for own, first, last, most in marks:
                for row in range(first, last + 1):
                    if own == path:
                        pages[numbers[row]] = pages.get(numbers[row], False) or most
            wanted[tuple(shown(head) for head in path)] = (pages, None, [])
        wanted[("far", "off")] = ({}, "a", [])
        wanted[("far",)] = ({}, "a", [])
        wanted[("also",)] = (wanted[("also",)][0], None, ["a", "B"])
        wanted[("a",)] = (wanted[("a",)][0], None, ["see, x"])
        told = lines_of(rows, sees)
        self.assertEqual(read(told), wanted)
        for number, (depth, text) in enumerate(told):
            self.assertLessEqual(depth, told[number - 1][0] + 1 if number else 0)


class Copies(unittest.TestCase):
    def test_handed_in_is_as_it_was(self):
        rows = [(path, list(told)) for path, told in ROWS]
        found = ways(rows, [see(("b", "c"), SEA), also(SEA, WATERS), also(SEA, LAKES)])
        kept = list(found)
        lines(rows, found)
        self.assertEqual(rows, ROWS)
        self.assertEqual(found, kept)
        line = (1, "sea")
        written(line)
        self.assertEqual(line, (1, "sea"))

    def test_told_list_is_the_askers_own(self):
        for rows in ([], ROWS):
            told = lines(rows, [])
            kept = list(told)
            told.append((0, "x"))
            told[0] = (0, "y")
            self.assertEqual(lines(rows, []), kept)

    def test_told_list_stays(self):
        rows = [(path, list(told)) for path, told in ROWS]
        found = ways(rows, [see(A, SEA)])
        told = lines(rows, found)
        rows[0][1].clear()
        rows.pop()
        found.clear()
        lines(rows, found)
        self.assertEqual(told, [(0, "a  see sea"), (0, "sea  1-2, *4*"), (0, "waters"), (1, "lakes  3")])

    def test_kinds(self):
        told = lines_of(ROWS, [see(A, SEA)])
        self.assertIs(type(told), list)
        for line in told:
            self.assertEqual((type(line), type(line[0]), type(line[1])), (tuple, int, str))
            self.assertIs(type(written(line)), str)

    def test_as_large_as_promised(self):
        marks = [(("a" + str(number),) + SIX[:number % 6], number, number, False) for number in range(50)]
        rows = entries([False] * 50, 1, 0, marks)
        sees = [see(("b" + str(number), "c"), marks[number % 50][0]) for number in range(60)]
        found = ways(rows, sees)
        self.assertEqual(lines(rows, found), lines_by_definition(rows, found))
        self.assertEqual(len(lines(rows, found)), len(rows) + 120)


if __name__ == "__main__":
    unittest.main()
