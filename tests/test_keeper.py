import itertools
import random
import unittest

from pageback.entries import entries
from pageback.errors import NoMark, NoRow, OutOfBook, PageError
from pageback.heads import rank
from pageback.keeper import Keeper
from pageback.marks import poured

SIXTY_FIGURES = 10 ** 60 - 1
SEA = ("sea",)
SHIPS = ("sea", "ships")
BOATS = ("boats",)
SIX = ("a", "b", "c", "d", "e", "f")

# On pages of two rows each, from 1 on: SEA on 1 and 2, SHIPS on 3, BOATS strong on 2.
MARKS = [(BOATS, 2, 3, True), (SEA, 1, 2, False), (SHIPS, 4, 5, False)]
ENTRIES = [(BOATS, [(2, 2, True)]), (SEA, [(1, 2, False)]), (SHIPS, [(3, 3, False)])]


def keeper():
    return Keeper([False] * 6, 2, 1, MARKS)


def state(kept):
    return (kept.rows(), kept.marks_now(), kept.entries_now())


def changes_by_definition(old, new):
    ahead, behind = dict(old), dict(new)
    return [
        (path, ahead.get(path), behind.get(path)) for path in sorted(ahead.keys() | behind.keys(), key=rank)
        if (path in ahead) != (path in behind) or ahead[path] != behind[path]
    ]


class Refusing(unittest.TestCase):
    def assert_refused(self, kind, values, call, handed):
        with self.assertRaises(PageError) as caught:
            call(handed)
        self.assertIs(type(caught.exception), kind)
        self.assertEqual(vars(caught.exception), values)

    def assert_kept(self, kept, kind, values, call, handed):
        """Refused, and all is behind it as it was."""
        before = state(kept)
        self.assert_refused(kind, values, call, handed)
        self.assertEqual(state(kept), before)


class Made(Refusing):
    def test_what_it_has(self):
        kept = keeper()
        self.assertEqual(kept.rows(), [False] * 6)
        self.assertEqual(kept.marks_now(), MARKS)
        self.assertEqual(kept.entries_now(), ENTRIES)

    def test_nothing(self):
        kept = Keeper([], 1, 0, [])
        self.assertEqual(state(kept), ([], [], []))

    def test_marks_in_any_order_and_twice(self):
        for handed in itertools.permutations(MARKS):
            for some in (list(handed), list(handed) * 2, list(handed) + MARKS[:1]):
                self.assertEqual(state(Keeper([False] * 6, 2, 1, some)), state(keeper()))

    def test_settings(self):
        self.assertEqual(Keeper([False] * 6, 3, 8, MARKS).entries_now(), entries([False] * 6, 3, 8, MARKS))
        self.assertEqual(Keeper([True] * 6, 3, 0, MARKS).entries_now(), entries([True] * 6, 3, 0, MARKS))

    def test_mark_that_does_not_fit(self):
        for first, last in ((-1, 2), (3, 2), (2, 6), (6, 6), (0, SIXTY_FIGURES)):
            for marks in (MARKS + [(SEA, first, last, True)], [(SEA, first, last, False)] + MARKS):
                self.assert_refused(OutOfBook, {"path": SEA, "first": first, "last": last},
                                    lambda some: Keeper([False] * 6, 2, 1, some), marks)

    def test_the_first_that_does_not_fit_as_poured(self):
        unfit = [(SEA, 7, 9, False), (SEA, 7, 8, True), (SHIPS, 0, 6, False), (("Sea",), 9, 9, False),
                 (SEA, 8, 8, True)]
        for some in itertools.permutations(unfit):
            self.assert_refused(OutOfBook, {"path": ("Sea",), "first": 9, "last": 9},
                                lambda marks: Keeper([False] * 6, 2, 1, marks), MARKS + list(some))
        del unfit[3]
        for some in itertools.permutations(unfit):
            self.assert_refused(OutOfBook, {"path": SEA, "first": 7, "last": 8},
                                lambda marks: Keeper([False] * 6, 2, 1, marks), list(some) + MARKS)


class Do(Refusing):
    def test_put_ahead(self):
        kept = keeper()
        self.assertEqual(kept.do(("put", 0, False)), [
            (BOATS, [(2, 2, True)], [(2, 3, True)]), (SEA, [(1, 2, False)], [(2, 2, False)]),
            (SHIPS, [(3, 3, False)], [(3, 4, False)]),
        ])
        self.assertEqual(kept.rows(), [False] * 7)
        self.assertEqual(kept.marks_now(), [(BOATS, 3, 4, True), (SEA, 2, 3, False), (SHIPS, 5, 6, False)])
        self.assertEqual(kept.entries_now(),
                         [(BOATS, [(2, 3, True)]), (SEA, [(2, 2, False)]), (SHIPS, [(3, 4, False)])])

    def test_put_of_a_new_page(self):
        kept = keeper()
        self.assertEqual(kept.do(("put", 4, True)), [(SHIPS, [(3, 3, False)], [(3, 4, False)])])
        self.assertEqual(kept.rows(), [False, False, False, False, True, False, False])
        self.assertEqual(kept.marks_now(), [(BOATS, 2, 3, True), (SEA, 1, 2, False), (SHIPS, 5, 6, False)])

    def test_put_behind_the_last_row_changes_no_entry(self):
        kept = keeper()
        self.assertEqual(kept.do(("put", 6, True)), [])
        self.assertEqual(state(kept), ([False] * 6 + [True], MARKS, ENTRIES))

    def test_put_into_a_book_without_rows(self):
        kept = Keeper([], 2, 1, [])
        self.assertEqual(kept.do(("put", 0, True)), [])
        self.assertEqual(state(kept), ([True], [], []))

    def test_cut(self):
        kept = keeper()
        self.assertEqual(kept.do(("cut", 1)), [
            (BOATS, [(2, 2, True)], [(1, 2, True)]), (SEA, [(1, 2, False)], [(1, 1, False)]),
            (SHIPS, [(3, 3, False)], [(2, 3, False)]),
        ])
        self.assertEqual(kept.rows(), [False] * 5)
        self.assertEqual(kept.marks_now(), [(BOATS, 1, 2, True), (SEA, 1, 1, False), (SHIPS, 3, 4, False)])

    def test_cut_that_takes_a_path_away(self):
        kept = Keeper([False] * 4, 2, 1, [(SHIPS, 1, 1, False), (BOATS, 0, 0, True)])
        self.assertEqual(kept.do(("cut", 1)), [(SEA, [], None), (SHIPS, [(1, 1, False)], None)])
        self.assertEqual(state(kept), ([False] * 3, [(BOATS, 0, 0, True)], [(BOATS, [(1, 1, True)])]))

    def test_cut_that_leaves_a_path_without_stretches(self):
        kept = Keeper([False] * 4, 2, 1, [(SHIPS, 0, 1, False), (SEA, 2, 2, True)])
        self.assertEqual(kept.do(("cut", 2)), [(SEA, [(2, 2, True)], [])])
        self.assertEqual(kept.entries_now(), [(SEA, []), (SHIPS, [(1, 1, False)])])

    def test_cut_of_the_only_row(self):
        kept = Keeper([True], 2, 7, [(SEA, 0, 0, True)])
        self.assertEqual(kept.do(("cut", 0)), [(SEA, [(7, 7, True)], None)])
        self.assertEqual(state(kept), ([], [], []))

    def test_marks_that_become_the_same_are_one(self):
        kept = Keeper([False] * 4, 1, 1, [(SEA, 1, 2, False), (SEA, 1, 3, False)])
        self.assertEqual(kept.do(("cut", 3)), [(SEA, [(2, 4, False)], [(2, 3, False)])])
        self.assertEqual(kept.marks_now(), [(SEA, 1, 2, False)])
        self.assertEqual(kept.take_out((SEA, 1, 2, False)), [(SEA, [(2, 3, False)], None)])
        self.assertEqual(kept.marks_now(), [])

    def test_there_and_back(self):
        kept = keeper()
        for at in range(7):
            ahead = kept.do(("put", at, True))
            back = kept.do(("cut", at))
            self.assertEqual(back, [(path, new, old) for path, old, new in ahead])
            self.assertEqual(state(kept), ([False] * 6, MARKS, ENTRIES))

    def test_row_that_is_not_there(self):
        kept = keeper()
        for at in (-1, -6, -7, 7, 8, SIXTY_FIGURES, -SIXTY_FIGURES):
            for deed in (("put", at, True), ("put", at, False), ("cut", at)):
                self.assert_kept(kept, NoRow, {"at": at}, kept.do, deed)
        self.assert_kept(kept, NoRow, {"at": 6}, kept.do, ("cut", 6))
        self.assertEqual(state(kept), ([False] * 6, MARKS, ENTRIES))

    def test_row_of_a_book_without_rows(self):
        kept = Keeper([], 2, 1, [])
        self.assert_kept(kept, NoRow, {"at": 0}, kept.do, ("cut", 0))
        self.assert_kept(kept, NoRow, {"at": -1}, kept.do, ("cut", -1))
        self.assert_kept(kept, NoRow, {"at": 1}, kept.do, ("put", 1, False))
        self.assert_kept(kept, NoRow, {"at": -1}, kept.do, ("put", -1, False))

    def test_rows_are_counted_behind_each_deed(self):
        kept = keeper()
        kept.do(("put", 6, False))
        self.assertEqual(kept.do(("put", 7, False)), [])
        self.assert_kept(kept, NoRow, {"at": 8}, kept.do, ("cut", 8))
        self.assertEqual(kept.do(("cut", 7)), [])
        self.assert_kept(kept, NoRow, {"at": 7}, kept.do, ("cut", 7))


class PutIn(Refusing):
    def test_new_path(self):
        kept = keeper()
        self.assertEqual(kept.put_in((("waters", "lakes"), 0, 3, True)),
                         [(("waters",), None, []), (("waters", "lakes"), None, [(1, 2, True)])])
        self.assertEqual(kept.marks_now(), MARKS + [(("waters", "lakes"), 0, 3, True)])
        self.assertEqual(kept.rows(), [False] * 6)

    def test_path_that_it_has(self):
        kept = keeper()
        self.assertEqual(kept.put_in((BOATS, 4, 4, False)), [(BOATS, [(2, 2, True)], [(2, 2, True), (3, 3, False)])])
        self.assertEqual(kept.put_in((BOATS, 5, 5, True)), [(BOATS, [(2, 2, True), (3, 3, False)], [(2, 3, True)])])
        self.assertEqual(kept.marks_now(), [MARKS[0], (BOATS, 4, 4, False), (BOATS, 5, 5, True)] + MARKS[1:])

    def test_path_above(self):
        kept = Keeper([False] * 4, 2, 1, [(SHIPS, 0, 0, False)])
        self.assertEqual(kept.put_in((SEA, 3, 3, False)), [(SEA, [], [(2, 2, False)])])

    def test_covered_already(self):
        kept = keeper()
        self.assertEqual(kept.put_in((SEA, 2, 2, False)), [])
        self.assertEqual(kept.marks_now(), [MARKS[0], MARKS[1], (SEA, 2, 2, False), MARKS[2]])

    def test_mark_that_it_has_already(self):
        kept = keeper()
        for mark in MARKS:
            self.assertEqual(kept.put_in(mark), [])
            self.assertEqual(state(kept), ([False] * 6, MARKS, ENTRIES))
        self.assertEqual(kept.take_out(MARKS[0]), [(BOATS, [(2, 2, True)], None)])
        self.assertEqual(kept.marks_now(), MARKS[1:])

    def test_order_of_marks(self):
        some = [(SEA, 1, 2, True), (SEA, 1, 2, False), (("Sea",), 5, 5, True), (SEA, 0, 5, False), (SEA, 1, 1, True)]
        for marks in itertools.permutations(some):
            kept = Keeper([False] * 6, 2, 1, [])
            for mark in marks:
                kept.put_in(mark)
            self.assertEqual(kept.marks_now(), poured([some]))

    def test_just_fitting(self):
        kept = keeper()
        self.assertEqual(kept.put_in((SIX[:1], 0, 5, False)), [(SIX[:1], None, [(1, 3, False)])])
        self.assertEqual(kept.put_in((SIX[1:2], 5, 5, False)), [(SIX[1:2], None, [(3, 3, False)])])

    def test_mark_that_does_not_fit(self):
        kept = keeper()
        for first, last in ((-1, 2), (-1, -1), (3, 2), (0, -1), (2, 6), (6, 6), (2, 7), (0, SIXTY_FIGURES),
                            (-SIXTY_FIGURES, 2), (SIXTY_FIGURES, SIXTY_FIGURES)):
            for path, most in itertools.product((SEA, ("new", "path")), (False, True)):
                self.assert_kept(kept, OutOfBook, {"path": path, "first": first, "last": last},
                                 kept.put_in, (path, first, last, most))
        self.assertEqual(state(kept), ([False] * 6, MARKS, ENTRIES))

    def test_book_without_rows(self):
        kept = Keeper([], 2, 1, [])
        self.assert_kept(kept, OutOfBook, {"path": SEA, "first": 0, "last": 0}, kept.put_in, (SEA, 0, 0, False))
        kept.do(("put", 0, False))
        self.assertEqual(kept.put_in((SEA, 0, 0, False)), [(SEA, None, [(1, 1, False)])])

    def test_fits_the_book_as_it_is_now(self):
        kept = keeper()
        kept.do(("cut", 0))
        self.assert_kept(kept, OutOfBook, {"path": SEA, "first": 5, "last": 5}, kept.put_in, (SEA, 5, 5, False))
        kept.do(("put", 0, False))
        self.assertEqual(kept.put_in((BOATS, 5, 5, True)), [(BOATS, [(2, 2, True)], [(2, 3, True)])])


class TakeOut(Refusing):
    def test_each_one(self):
        self.assertEqual(keeper().take_out(MARKS[0]), [(BOATS, [(2, 2, True)], None)])
        self.assertEqual(keeper().take_out(MARKS[1]), [(SEA, [(1, 2, False)], [])])
        self.assertEqual(keeper().take_out(MARKS[2]), [(SHIPS, [(3, 3, False)], None)])

    def test_what_it_has_then(self):
        kept = keeper()
        kept.take_out(MARKS[1])
        self.assertEqual(state(kept), ([False] * 6, [MARKS[0], MARKS[2]],
                                       [ENTRIES[0], (SEA, []), ENTRIES[2]]))
        self.assertEqual(kept.take_out(MARKS[2]), [(SEA, [], None), (SHIPS, [(3, 3, False)], None)])
        self.assertEqual(state(kept), ([False] * 6, MARKS[:1], ENTRIES[:1]))
        kept.take_out(MARKS[0])
        self.assertEqual(state(kept), ([False] * 6, [], []))

    def test_one_of_two_that_differ_in_most(self):
        kept = Keeper([False] * 6, 2, 1, [(SEA, 1, 2, False), (SEA, 1, 2, True)])
        self.assertEqual(kept.take_out((SEA, 1, 2, True)), [(SEA, [(1, 2, True)], [(1, 2, False)])])
        self.assertEqual(kept.marks_now(), [(SEA, 1, 2, False)])
        kept = Keeper([False] * 6, 2, 1, [(SEA, 1, 2, False), (SEA, 1, 2, True)])
        self.assertEqual(kept.take_out((SEA, 1, 2, False)), [])
        self.assertEqual(kept.marks_now(), [(SEA, 1, 2, True)])

    def test_handed_in_twice_is_gone_at_once(self):
        kept = Keeper([False] * 6, 2, 1, MARKS * 2)
        kept.take_out(MARKS[0])
        self.assertEqual(kept.marks_now(), MARKS[1:])
        self.assert_kept(kept, NoMark, {}, kept.take_out, MARKS[0])

    def test_mark_that_it_does_not_have(self):
        kept = keeper()
        unlike = [
            (("Sea",), 1, 2, False), (SHIPS, 1, 2, False), (("sea", "sea"), 1, 2, False), (SEA, 0, 2, False),
            (SEA, 2, 2, False), (SEA, 1, 1, False), (SEA, 1, 3, False), (SEA, 1, 2, True), (BOATS, 2, 3, False),
        ]
        for mark in unlike:
            self.assert_kept(kept, NoMark, {}, kept.take_out, mark)

    def test_mark_that_does_not_fit(self):
        kept = keeper()
        for first, last in ((-1, 2), (3, 2), (2, 6), (6, 6), (SIXTY_FIGURES, SIXTY_FIGURES), (-SIXTY_FIGURES, 0)):
            self.assert_kept(kept, NoMark, {}, kept.take_out, (SEA, first, last, False))

    def test_of_no_marks(self):
        kept = Keeper([], 2, 1, [])
        self.assert_kept(kept, NoMark, {}, kept.take_out, (SEA, 0, 0, False))

    def test_as_it_lies_now(self):
        kept = keeper()
        kept.do(("put", 0, False))
        self.assert_kept(kept, NoMark, {}, kept.take_out, MARKS[0])
        self.assertEqual(kept.take_out((BOATS, 3, 4, True)), [(BOATS, [(2, 3, True)], None)])


class Mirror:
    """Keeps each row with a sign of its own and each mark by the signs it covers, and makes all anew when asked."""

    def __init__(self, book, most, first, marks):
        self.rows = [(new, number) for number, new in enumerate(book)]
        self.settings = (most, first)
        self.next_sign = len(book)
        self.marks = {(path, frozenset(range(start, end + 1)), most) for path, start, end, most in marks}

    def do(self, deed):
        if deed[0] == "put":
            sign = self.next_sign
            self.next_sign += 1
            signs = [own for new, own in self.rows]
            ahead, behind = set(signs[:deed[1]]), set(signs[deed[1]:])
            self.marks = {(path, own | {sign} if own & ahead and own & behind else own, most)
                          for path, own, most in self.marks}
            self.rows.insert(deed[1], (deed[2], sign))
        else:
            sign = self.rows.pop(deed[1])[1]
            self.marks = {(path, own - {sign}, most) for path, own, most in self.marks if own != {sign}}

    def signs(self, mark):
        return (mark[0], frozenset(sign for new, sign in self.rows[mark[1]:mark[2] + 1]), mark[3])

    def put_in(self, mark):
        self.marks |= {self.signs(mark)}

    def take_out(self, mark):
        self.marks -= {self.signs(mark)}

    def state(self):
        places = {sign: number for number, (new, sign) in enumerate(self.rows)}
        book = [new for new, sign in self.rows]
        marks = poured([[(path, min(places[sign] for sign in own), max(places[sign] for sign in own), most)
                         for path, own, most in self.marks]])
        return (book, marks, entries(book, *self.settings, marks))


class ManyDeeds(Refusing):
    def some_mark(self, chance, many):
        first = chance.randrange(many)
        path = chance.choice([SEA, SHIPS, BOATS, ("Sea",), SIX[:2], SIX, ("a", "B")])
        return (path, first, chance.randint(first, min(first + 4, many - 1)), chance.random() < 0.3)

    def step(self, chance, kept, mirror):
        rows, marks, told = state(kept)
        choice = chance.randrange(8)
        if choice < 2:
            return (kept.do, mirror.do, ("put", chance.randint(0, len(rows)), chance.random() < 0.3))
        if choice < 4 and rows:
            return (kept.do, mirror.do, ("cut", chance.randrange(len(rows))))
        if choice < 6 and rows:
            return (kept.put_in, mirror.put_in, self.some_mark(chance, len(rows)))
        if choice == 6 and marks:
            return (kept.take_out, mirror.take_out, chance.choice(marks))
        refused = chance.choice([
            (NoRow, {"at": len(rows)}, kept.do, ("cut", len(rows))),
            (NoRow, {"at": -1}, kept.do, ("put", -1, True)),
            (OutOfBook, {"path": SEA, "first": 0, "last": len(rows)}, kept.put_in, (SEA, 0, len(rows), True)),
            (NoMark, {}, kept.take_out, (SEA, 0, len(rows), True)),
        ])
        self.assert_kept(kept, *refused)
        return None

    def go(self, chance, kept, mirror):
        chosen = self.step(chance, kept, mirror)
        if chosen:
            before = state(kept)
            told = chosen[0](chosen[2])
            chosen[1](chosen[2])
            self.assertEqual(told, changes_by_definition(before[2], mirror.state()[2]))
        self.assertEqual(state(kept), mirror.state())

    def test_entries_are_those_made_anew(self):
        for seed in range(30):
            chance = random.Random(seed)
            book = [chance.random() < 0.2 for _ in range(chance.randrange(12))]
            marks = [self.some_mark(chance, len(book)) for _ in range(8)] if book else []
            settings = (chance.randint(1, 4), chance.randint(0, 9))
            kept, mirror = Keeper(book, *settings, marks), Mirror(book, *settings, marks)
            for _ in range(60):
                self.go(chance, kept, mirror)

    def test_two_keepers_beside_one_another(self):
        chance = random.Random(7)
        book, marks = [False] * 9, [self.some_mark(chance, 9) for _ in range(5)]
        pairs = [(Keeper(book, most, 1, marks), Mirror(book, most, 1, marks)) for most in (2, 3)]
        for _ in range(100):
            kept, mirror = chance.choice(pairs)
            self.go(chance, kept, mirror)
            for one, other in pairs:
                self.assertEqual(state(one), other.state())

    def test_until_all_rows_are_cut(self):
        kept = keeper()
        for _ in range(6):
            before = kept.entries_now()
            self.assertEqual(kept.do(("cut", 0)), changes_by_definition(before, kept.entries_now()))
        self.assertEqual(state(kept), ([], [], []))

    def test_as_large_as_promised(self):
        book = [number % 11 == 0 for number in range(1000)]
        marks = [(SIX[:number % 6] + (str(number),), number, 999 - number, number % 5 == 0) for number in range(300)]
        kept, mirror = Keeper(book, 4, SIXTY_FIGURES, marks), Mirror(book, 4, SIXTY_FIGURES, marks)
        for deed in (("cut", 999), ("put", 0, True), ("cut", 500), ("put", 300, False)):
            before = kept.entries_now()
            told = kept.do(deed)
            mirror.do(deed)
            self.assertEqual(told, changes_by_definition(before, mirror.state()[2]))
            self.assertEqual(state(kept), mirror.state())


class Copies(Refusing):
    def test_handed_in_is_not_changed(self):
        book, marks = [False] * 6, MARKS[::-1] + MARKS[:1]
        kept = Keeper(book, 2, 1, marks)
        for deed in (("put", 0, True), ("cut", 3), ("put", 2, False)):
            kept.do(deed)
        kept.put_in((SEA, 0, 0, True))
        kept.take_out((SEA, 0, 0, True))
        self.assertEqual((book, marks), ([False] * 6, MARKS[::-1] + MARKS[:1]))

    def test_handed_in_is_not_kept(self):
        book, marks = [False] * 6, list(MARKS)
        kept = Keeper(book, 2, 1, marks)
        book.clear()
        marks.append((SEA, 0, 0, True))
        del marks[0]
        self.assertEqual(state(kept), state(keeper()))
        self.assertEqual(kept.do(("cut", 5)), [])

    def test_refused_when_made_leaves_all_as_it_was(self):
        book, marks = [False] * 6, [(SEA, 9, 9, True)] + MARKS
        self.assert_refused(OutOfBook, {"path": SEA, "first": 9, "last": 9},
                            lambda some: Keeper(book, 2, 1, some), marks)
        self.assertEqual((book, marks), ([False] * 6, [(SEA, 9, 9, True)] + MARKS))

    def test_told_lists_are_the_askers_own(self):
        kept = keeper()
        for _ in range(2):
            kept.rows().append(True)
            kept.rows()[0] = True
            kept.marks_now().clear()
            told = kept.entries_now()
            for path, stretches in told:
                stretches.append((9, 9, True))
            told.clear()
            self.assertEqual(state(kept), ([False] * 6, MARKS, ENTRIES))
        # Nor do the changes told later hang on them.
        self.assertEqual(kept.do(("put", 6, False)), [])
        self.assertEqual(kept.do(("put", 6, False)), [])

    def test_told_changes_are_the_askers_own(self):
        kept = keeper()
        for deed in (("put", 0, False), ("cut", 0)) * 2:
            before = kept.entries_now()
            told = kept.do(deed)
            self.assertEqual(len(told), 3)
            wanted = state(kept)
            for path, old, new in told:
                old.clear()
                new.append((9, 9, True))
            told.clear()
            self.assertEqual(state(kept), wanted)
            self.assertNotEqual(kept.entries_now(), before)
        told = kept.put_in((("x", "y"), 0, 0, False))
        told[0][2].append((9, 9, True))
        told[1][2].clear()
        self.assertEqual(kept.take_out((("x", "y"), 0, 0, False)),
                         [(("x",), [], None), (("x", "y"), [(1, 1, False)], None)])
        self.assertEqual(state(kept), ([False] * 6, MARKS, ENTRIES))

    def test_told_lists_stay(self):
        kept = keeper()
        rows, marks, told = state(kept)
        changed = kept.put_in((SEA, 0, 5, True))
        kept.do(("cut", 0))
        kept.do(("put", 0, True))
        kept.take_out(kept.marks_now()[0])
        self.assertEqual((rows, marks, told), ([False] * 6, MARKS, ENTRIES))
        self.assertEqual(changed, [(SEA, [(1, 2, False)], [(1, 3, True)])])

    def test_new_ones_each_time(self):
        kept = keeper()
        for ask in (kept.rows, kept.marks_now, kept.entries_now):
            one, other = ask(), ask()
            self.assertEqual(one, other)
            self.assertIsNot(one, other)
        for one, other in zip(kept.marks_now(), kept.marks_now()):
            self.assertIsNot(one, other)
            self.assertIsNot(one[0], other[0])
        for one, other in zip(kept.entries_now(), kept.entries_now()):
            self.assertIsNot(one, other)
            self.assertIsNot(one[0], other[0])
            self.assertIsNot(one[1], other[1])
            self.assertIsNot(one[1][0], other[1][0])

    def test_tuples_handed_in_are_not_told(self):
        mark = (("new", "path"), 0, 1, False)
        kept = Keeper([False] * 6, 2, 1, MARKS)
        told = kept.put_in(mark)
        old = [id(mark), id(mark[0])] + [id(one) for one in MARKS] + [id(one[0]) for one in MARKS]
        for one in told + kept.marks_now() + kept.entries_now():
            self.assertNotIn(id(one), old)
            self.assertNotIn(id(one[0]), old)

    def test_kinds(self):
        kept = keeper()
        self.assertEqual([type(told) for told in state(kept)], [list, list, list])
        for told in (kept.do(("put", 0, True)), kept.put_in((SEA, 0, 0, True)), kept.take_out((SEA, 0, 0, True)),
                     kept.put_in((SEA, 2, 2, False))):
            self.assertIs(type(told), list)
            for change in told:
                self.assertEqual((type(change), len(change)), (tuple, 3))


if __name__ == "__main__":
    unittest.main()
