import copy
import unittest

from pageback.errors import (
    Both, Nowhere, NoMark, NoRow, NoText, OutOfBook, PageError, Ring, SentHere, TwoWays,
)

PATH = ("Ann|de Vries", "ships")
GOAL = ("boats",)

MADE = [
    (OutOfBook, (PATH, 3, 7), {"path": PATH, "first": 3, "last": 7}),
    (SentHere, (PATH,), {"path": PATH}),
    (Both, (PATH,), {"path": PATH}),
    (TwoWays, (PATH,), {"path": PATH}),
    (Ring, ([PATH, GOAL],), {"ring": [PATH, GOAL]}),
    (Nowhere, (PATH, GOAL), {"path": PATH, "goal": GOAL}),
    (NoRow, (5,), {"at": 5}),
    (NoMark, (), {}),
    (NoText, (1,), {"row": 1}),
]


class Values(unittest.TestCase):
    def test_each_object_has_the_values_told(self):
        for kind, handed, values in MADE:
            with self.subTest(kind.__name__):
                self.assertEqual(vars(kind(*handed)), values)

    def test_values_go_with_the_error_raised(self):
        for kind, handed, values in MADE:
            with self.subTest(kind.__name__):
                with self.assertRaises(PageError) as caught:
                    raise kind(*handed)
                self.assertIs(type(caught.exception), kind)
                self.assertEqual(vars(caught.exception), values)

    def test_a_copy_has_the_same_values(self):
        for kind, handed, values in MADE:
            with self.subTest(kind.__name__):
                self.assertEqual(vars(copy.copy(kind(*handed))), values)

    def test_objects_have_values_of_their_own(self):
        one = NoRow(1)
        other = NoRow(2)
        self.assertEqual((one.at, other.at), (1, 2))

    def test_ring_keeps_no_list_that_is_handed_in(self):
        handed = [PATH, GOAL]
        error = Ring(handed)
        words = str(error)
        handed.append(PATH)
        self.assertEqual(error.ring, [PATH, GOAL])
        self.assertEqual(str(error), words)
        error.ring.clear()
        self.assertEqual(handed, [PATH, GOAL, PATH])


class Bases(unittest.TestCase):
    def test_page_error_is_a_value_error(self):
        self.assertTrue(issubclass(PageError, ValueError))

    def test_each_stands_under_page_error_and_value_error(self):
        for kind, _, _ in MADE:
            with self.subTest(kind.__name__):
                self.assertTrue(issubclass(kind, PageError))
                self.assertTrue(issubclass(kind, ValueError))

    def test_none_stands_under_another_one(self):
        for kind, _, _ in MADE:
            self.assertFalse(issubclass(PageError, kind))
            for other, _, _ in MADE:
                if kind is not other:
                    with self.subTest((kind.__name__, other.__name__)):
                        self.assertFalse(issubclass(kind, other))

    def test_names(self):
        self.assertEqual(
            [kind.__name__ for kind, _, _ in MADE],
            ["OutOfBook", "SentHere", "Both", "TwoWays", "Ring", "Nowhere", "NoRow", "NoMark", "NoText"],
        )


if __name__ == "__main__":
    unittest.main()
