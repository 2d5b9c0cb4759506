import itertools
import re
import unittest

from pageback.heads import is_head, key_of, path_shown, rank, shown

# Every sign that a text may have, and the percent sign, which no text has: it is no sign of a head either.
ALL_SIGNS = [chr(number) for number in range(32, 127)] + ["\n"]
HEAD_SIGNS = "abcdefghijklmnopqrstuvwxyzABCDEFGHIJKLMNOPQRSTUVWXYZ0123456789-"


class IsHead(unittest.TestCase):
    def is_one(self, text):
        self.assertIs(is_head(text), True, repr(text))

    def is_none(self, text):
        self.assertIs(is_head(text), False, repr(text))

    def test_ordinary_heads(self):
        for text in ("ships", "Ann|de Vries", "sea and land", "A4", "1914-18", "Jean-Luc|van der Berg", "a b c d"):
            self.is_one(text)

    def test_no_signs(self):
        self.is_none("")

    def test_one_sign(self):
        for sign in HEAD_SIGNS:
            self.is_one(sign)
        self.is_none(" ")
        self.is_none("|")

    def test_forty_signs_and_more(self):
        self.is_one("a" * 39)
        self.is_one("a" * 40)
        self.is_none("a" * 41)
        self.is_one("a" * 19 + "|" + "b" * 20)
        self.is_none("a" * 20 + "|" + "b" * 20)
        self.is_one("a " * 19 + "bc")
        self.is_none("a " * 20 + "b")
        self.is_none("a" * 100000)

    def test_blanks(self):
        for text in (" a", "a ", " a ", "a  b", "a   b", "  ", "a b ", " a|b", "a|b ", "a  b|c", "a|b  c"):
            self.is_none(text)
        self.is_one("a b")
        self.is_one("a b|c d")

    def test_blanks_beside_the_bar(self):
        for text in ("a |b", "a| b", "a | b", " |a", "a| ", " | "):
            self.is_none(text)

    def test_bar_needs_a_sign_on_each_side(self):
        for text in ("|a", "a|", "|"):
            self.is_none(text)
        self.is_one("a|b")
        self.is_one("-|-")

    def test_two_bars(self):
        for text in ("a||b", "a|b|c", "||", "|a|", "a|b|", "|a|b", "a|b|c|d"):
            self.is_none(text)

    def test_other_signs(self):
        for sign in ALL_SIGNS:
            if sign not in HEAD_SIGNS and sign not in " |":
                for text in (sign, sign + "a", "a" + sign, "a" + sign + "b", "a|b" + sign, sign + "a|b"):
                    self.is_none(text)

    def test_all_short_texts(self):
        pattern = re.compile(r"[a-]+( [a-]+)*(\|[a-]+( [a-]+)*)?")
        for length in range(7):
            for signs in itertools.product("a-| ,", repeat=length):
                text = "".join(signs)
                self.assertIs(is_head(text), pattern.fullmatch(text) is not None, repr(text))


class Shown(unittest.TestCase):
    def test_turned_about(self):
        self.assertEqual(shown("Ann|de Vries"), "de Vries, Ann")
        self.assertEqual(shown("a|b"), "b, a")
        self.assertEqual(shown("Anna Maria|van der Berg-Smit"), "van der Berg-Smit, Anna Maria")
        self.assertEqual(shown("-|-"), "-, -")

    def test_as_it_is(self):
        for head in ("ships", "de Vries", "A", "-", "Sea and Land 2"):
            self.assertEqual(shown(head), head)


class KeyOf(unittest.TestCase):
    def test_letters_made_small(self):
        self.assertEqual(key_of("Ships"), "ships")
        self.assertEqual(key_of("SHIPS OF 1914-18"), "shipsof191418")
        self.assertEqual(key_of("ABCDEFGHIJKLMNOPQRSTUVWXYZ"), "abcdefghijklmnopqrstuvwxyz")
        self.assertEqual(key_of("abcdefghijklmnopqrstuvwxyz0123456789"), "abcdefghijklmnopqrstuvwxyz0123456789")

    def test_key_of_the_shown_text(self):
        self.assertEqual(key_of("Ann|de Vries"), "devriesann")
        self.assertEqual(key_of("B|a"), "ab")

    def test_without_signs(self):
        for head in ("-", "--", "- -", "-|-"):
            self.assertEqual(key_of(head), "")


class Ordered(unittest.TestCase):
    def assert_ordered(self, paths):
        for (i, one), (j, other) in itertools.product(enumerate(paths), repeat=2):
            with self.subTest((one, other)):
                self.assertEqual(rank(one) < rank(other), i < j)
                self.assertEqual(rank(one) == rank(other), i == j)
        self.assertEqual(sorted(reversed(paths), key=rank), paths)


class HeadOrder(Ordered):
    def test_by_keys(self):
        # By their texts alone `Z` would be ahead of `a`, and `Ann|de Vries` ahead of `B`.
        self.assert_ordered([("1",), ("10",), ("2",), ("a",), ("B",), ("Ann|de Vries",), ("sea-b",), ("sea c",), ("Z",)])

    def test_same_key_by_shown_texts(self):
        # As texts `a b` has the blank, `b|a` is shown as `a, b`, then come `-` and letters.
        self.assert_ordered([("a b",), ("b|a",), ("a-b",), ("ab",)])

    def test_size_of_letters_alone(self):
        self.assert_ordered([("ANN",), ("ANn",), ("Ann",), ("aNN",), ("ann",)])

    def test_keys_without_signs(self):
        self.assert_ordered([("-",), ("- -",), ("-|-",), ("--",), ("0",), ("a",)])


class Rank(Ordered):
    def test_list_of_tuples(self):
        told = rank(("Ships", "Ann|de Vries", "-"))
        self.assertEqual(told, [("ships", "Ships"), ("devriesann", "de Vries, Ann"), ("", "-")])
        self.assertIs(type(told), list)
        for pair in told:
            self.assertIs(type(pair), tuple)

    def test_above_comes_ahead(self):
        heads = ("a", "b", "c", "d", "e", "f")
        self.assert_ordered([heads[:many] for many in range(1, 7)])

    def test_above_comes_ahead_of_all_beneath(self):
        self.assert_ordered([("b",), ("b", "-"), ("b", "a"), ("b", "a", "z"), ("b", "c"), ("c",), ("c", "a")])

    def test_first_heads_go_first(self):
        # Heads of the same key are two heads still: what stands beneath the first one comes ahead of the other.
        self.assert_ordered([("A",), ("A", "z"), ("a",), ("a", "a"), ("a b",), ("ab",), ("ab", "a")])

    def test_later_heads(self):
        start = ("a", "b", "c", "d", "e")
        self.assert_ordered([start + ("Ann",), start + ("ann",), start + ("Ann|de Vries",), start + ("z",)])
        self.assert_ordered([("a", "b", "z"), ("a", "c", "a"), ("b", "a", "a")])

    def test_like_paths_have_equal_ranks(self):
        self.assertEqual(rank(("a", "Ann|de Vries")), rank(tuple(["a", "Ann" + "|de Vries"])))

    def test_no_answer_hangs_on_an_earlier_one(self):
        path = ("a", "b")
        told = rank(path)
        told.append(("z", "z"))
        told[0] = ("y", "y")
        self.assertEqual(rank(path), [("a", "a"), ("b", "b")])
        self.assertEqual(path, ("a", "b"))


class PathShown(unittest.TestCase):
    def test_one_head(self):
        self.assertEqual(path_shown(("ships",)), "ships")
        self.assertEqual(path_shown(("Ann|de Vries",)), "de Vries, Ann")

    def test_several_heads(self):
        self.assertEqual(path_shown(("ships", "of war")), "ships: of war")
        self.assertEqual(path_shown(("people", "Ann|de Vries", "letters")), "people: de Vries, Ann: letters")
        self.assertEqual(path_shown(("B|A", "D|C")), "A, B: C, D")
        self.assertEqual(path_shown(("a", "b", "c", "d", "e", "f")), "a: b: c: d: e: f")


if __name__ == "__main__":
    unittest.main()
