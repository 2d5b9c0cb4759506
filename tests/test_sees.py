import itertools
import unittest

from pageback.entries import entries
from pageback.errors import Both, Nowhere, PageError, Ring, SentHere, TwoWays
from pageback.heads import rank
from pageback.marks import poured_sees
from pageback.sees import ways

A, B, C, D, E = ("a",), ("b",), ("c",), ("d",), ("e",)
SEA = ("sea",)
LAKES = ("waters", "lakes")
WATERS = ("waters",)
# Entries with stretches are SEA and LAKES, one without is WATERS.
ROWS = [(SEA, [(1, 2, False), (4, 4, True)]), (WATERS, []), (LAKES, [(3, 3, False)])]


def see(path, goal):
    return (path, goal, False)


def also(path, goal):
    return (path, goal, True)


def orders(sees):
    return (sees, sees[::-1], sees + sees, sees[1:] + sees[:1])


class Right(unittest.TestCase):
    def assert_told(self, sees, wanted, rows=ROWS):
        for handed in orders(sees):
            self.assertEqual(ways(rows, handed), wanted)

    def test_no_sees(self):
        self.assertEqual(ways(ROWS, []), [])
        self.assertEqual(ways([], []), [])

    def test_goal_is_an_entry_with_stretches(self):
        self.assert_told([see(A, SEA)], [(A, SEA, False, SEA, 1)])
        self.assert_told([see(A, LAKES)], [(A, LAKES, False, LAKES, 1)])

    def test_goal_is_an_entry_without_stretches(self):
        self.assert_told([see(A, WATERS)], [(A, WATERS, False, WATERS, 1)])
        self.assert_told([also(SEA, WATERS)], [(SEA, WATERS, True, WATERS, 1)])

    def test_sent_on_once(self):
        self.assert_told([see(A, B), see(B, SEA)], [(A, B, False, SEA, 2), (B, SEA, False, SEA, 1)])

    def test_sent_on_several_times(self):
        self.assert_told(
            [see(A, C), see(C, B), see(B, D), see(D, WATERS)],
            [(A, C, False, WATERS, 4), (B, D, False, WATERS, 2), (C, B, False, WATERS, 3),
             (D, WATERS, False, WATERS, 1)],
        )

    def test_several_ways_to_one_end(self):
        self.assert_told(
            [see(A, D), see(B, D), see(C, SEA), see(D, SEA)],
            [(A, D, False, SEA, 2), (B, D, False, SEA, 2), (C, SEA, False, SEA, 1), (D, SEA, False, SEA, 1)],
        )

    def test_also_sends_nothing_on(self):
        self.assert_told([see(A, SEA), also(SEA, LAKES)], [(A, SEA, False, SEA, 1), (SEA, LAKES, True, LAKES, 1)])
        self.assert_told([also(SEA, LAKES), also(LAKES, SEA)],
                         [(SEA, LAKES, True, LAKES, 1), (LAKES, SEA, True, SEA, 1)])

    def test_also_whose_goal_is_sent_on(self):
        self.assert_told(
            [also(SEA, A), see(A, B), see(B, LAKES)],
            [(A, B, False, LAKES, 2), (B, LAKES, False, LAKES, 1), (SEA, A, True, LAKES, 3)],
        )

    def test_also_with_several_goals_and_like_ends(self):
        self.assert_told(
            [also(SEA, WATERS), also(SEA, LAKES), also(SEA, A), see(A, LAKES)],
            [(A, LAKES, False, LAKES, 1), (SEA, A, True, LAKES, 2), (SEA, WATERS, True, WATERS, 1),
             (SEA, LAKES, True, LAKES, 1)],
        )

    def test_path_that_is_there_without_stretches_is_sent_on(self):
        self.assert_told([see(WATERS, SEA), also(LAKES, WATERS)],
                         [(WATERS, SEA, False, SEA, 1), (LAKES, WATERS, True, SEA, 2)])

    def test_see_and_also_of_one_path(self):
        self.assert_told([also(WATERS, LAKES), see(WATERS, SEA)],
                         [(WATERS, SEA, False, SEA, 1), (WATERS, LAKES, True, LAKES, 1)])
        self.assert_told([also(WATERS, SEA), see(WATERS, SEA)],
                         [(WATERS, SEA, False, SEA, 1), (WATERS, SEA, True, SEA, 1)])

    def test_goal_beneath_and_above_its_path(self):
        self.assert_told([see(WATERS, LAKES)], [(WATERS, LAKES, False, LAKES, 1)])
        self.assert_told([also(LAKES, WATERS)], [(LAKES, WATERS, True, WATERS, 1)])

    def test_like_keys_are_two_paths(self):
        rows = [(("ann",), [(1, 1, False)])]
        self.assert_told([see(("Ann",), ("ann",))], [(("Ann",), ("ann",), False, ("ann",), 1)], rows)
        rows = [(("b|a",), [(1, 1, False)])]
        self.assert_told([see(("a b",), ("b|a",))], [(("a b",), ("b|a",), False, ("b|a",), 1)], rows)

    def test_long_way(self):
        paths = [("x", "%03d" % number) for number in range(299)]
        sees = [see(one, other) for one, other in itertools.pairwise(paths)] + [see(paths[-1], SEA)]
        wanted = [(one, goal, False, SEA, 299 - number) for number, (one, goal, _) in enumerate(sees)]
        self.assertEqual(ways(ROWS, sees[::-1]), wanted)

    def test_with_entries_of_a_book(self):
        rows = entries([False] * 6, 2, 1, [(LAKES, 0, 1, False), (SEA, 2, 5, True)])
        self.assert_told([see(A, WATERS), also(SEA, A)],
                         [(A, WATERS, False, WATERS, 1), (SEA, A, True, WATERS, 2)], rows)


class Refused(unittest.TestCase):
    def assert_refused(self, kind, values, sees, rows=ROWS):
        for handed in orders(sees):
            with self.assertRaises(PageError) as caught:
                ways(rows, handed)
            self.assertIs(type(caught.exception), kind)
            self.assertEqual(vars(caught.exception), values)


class Alone(Refused):
    def test_sent_here(self):
        for path in (A, SEA, WATERS, LAKES):
            for make in (see, also):
                self.assert_refused(SentHere, {"path": path}, [make(path, path)])

    def test_both(self):
        self.assert_refused(Both, {"path": SEA}, [see(SEA, LAKES)])
        self.assert_refused(Both, {"path": LAKES}, [see(LAKES, WATERS)])

    def test_both_of_no_also(self):
        self.assertEqual(ways(ROWS, [also(SEA, LAKES)]), [(SEA, LAKES, True, LAKES, 1)])

    def test_two_ways(self):
        self.assert_refused(TwoWays, {"path": A}, [see(A, SEA), see(A, LAKES)])
        self.assert_refused(TwoWays, {"path": WATERS}, [see(WATERS, SEA), see(WATERS, LAKES)])
        self.assert_refused(TwoWays, {"path": A}, [see(A, SEA), see(A, LAKES), see(A, WATERS)])

    def test_no_two_ways_with_also_or_the_same_goal(self):
        self.assertEqual(len(ways(ROWS, [see(WATERS, SEA), also(WATERS, LAKES)])), 2)
        self.assertEqual(len(ways(ROWS, [see(A, SEA), see(A, SEA)])), 1)
        self.assertEqual(len(ways(ROWS, [also(SEA, LAKES), also(SEA, WATERS)])), 2)

    def test_ring_of_two(self):
        self.assert_refused(Ring, {"ring": [A, B]}, [see(A, B), see(B, A)])

    def test_ring_of_several(self):
        self.assert_refused(Ring, {"ring": [A, B, C, D]}, [see(A, B), see(B, C), see(C, D), see(D, A)])
        self.assert_refused(Ring, {"ring": [A, D, C, B]}, [see(A, D), see(D, C), see(C, B), see(B, A)])
        self.assert_refused(Ring, {"ring": [A, C, B, D]}, [see(A, C), see(C, B), see(B, D), see(D, A)])

    def test_ring_come_to_from_without(self):
        self.assert_refused(Ring, {"ring": [B, C]}, [see(A, C), see(C, B), see(B, C)])
        self.assert_refused(Ring, {"ring": [C, E, D]}, [see(A, B), see(B, D), see(D, C), see(C, E), see(E, D)])
        self.assert_refused(Ring, {"ring": [C, D, E]}, [see(A, B), see(B, E), see(E, C), see(C, D), see(D, E)])

    def test_ring_come_to_by_also(self):
        self.assert_refused(Ring, {"ring": [("x",), ("y",)]},
                            [also(SEA, ("y",)), see(("x",), ("y",)), see(("y",), ("x",))])
        self.assert_refused(Ring, {"ring": [("x",), ("y",)]},
                            [also(A, ("y",)), see(("x",), ("y",)), see(("y",), ("x",))])

    def test_ring_from_the_first_as_paths_are_ordered(self):
        # As texts `Z` would be ahead of `a`, and `b|a`, which is shown as `a, b`, behind `a-b`.
        self.assert_refused(Ring, {"ring": [("a",), ("Z",)]}, [see(("Z",), ("a",)), see(("a",), ("Z",))])
        self.assert_refused(Ring, {"ring": [("b|a",), ("a-b",)]}, [see(("a-b",), ("b|a",)), see(("b|a",), ("a-b",))])
        self.assert_refused(Ring, {"ring": [WATERS, LAKES + ("x",)]},
                            [see(LAKES + ("x",), WATERS), see(WATERS, LAKES + ("x",))])

    def test_ring_of_one_come_to_from_without(self):
        self.assert_refused(Ring, {"ring": [B]}, [see(A, B), see(B, B)])
        self.assert_refused(Ring, {"ring": [C]}, [see(A, B), see(B, C), see(C, C)])

    def test_end_is_not_there(self):
        self.assert_refused(Nowhere, {"path": A, "goal": B}, [see(A, B)])
        self.assert_refused(Nowhere, {"path": A, "goal": B}, [see(A, B)], [])
        self.assert_refused(Nowhere, {"path": A, "goal": B}, [see(A, B), see(B, C)])
        self.assert_refused(Nowhere, {"path": SEA, "goal": ("x",)}, [also(SEA, ("x",))])
        self.assert_refused(Nowhere, {"path": A, "goal": ("Sea",)}, [see(A, ("Sea",))])
        self.assert_refused(Nowhere, {"path": A, "goal": LAKES + ("x",)}, [see(A, LAKES + ("x",))])

    def test_path_of_a_see_alone_is_not_there(self):
        self.assert_refused(Nowhere, {"path": A, "goal": B}, [see(A, B), see(C, SEA)])

    def test_also_with_a_path_that_is_not_there(self):
        self.assert_refused(Nowhere, {"path": A, "goal": SEA}, [also(A, SEA)])
        self.assert_refused(Nowhere, {"path": A, "goal": LAKES}, [also(A, LAKES), see(A, SEA)])

    def test_end_is_its_own_path(self):
        self.assert_refused(Nowhere, {"path": SEA, "goal": A}, [also(SEA, A), see(A, SEA)])
        self.assert_refused(Nowhere, {"path": WATERS, "goal": A}, [also(WATERS, A), see(A, B), see(B, WATERS)])


class Several(Refused):
    def test_sent_here_ahead_of_the_others(self):
        self.assert_refused(SentHere, {"path": SEA}, [see(SEA, SEA)])
        self.assert_refused(SentHere, {"path": A}, [see(A, A), see(A, B)])
        self.assert_refused(SentHere, {"path": A}, [also(A, A)])

    def test_both_ahead_of_the_others(self):
        self.assert_refused(Both, {"path": SEA}, [see(SEA, LAKES), see(SEA, WATERS)])
        self.assert_refused(Both, {"path": SEA}, [see(SEA, ("t",)), see(("t",), SEA)])
        self.assert_refused(Both, {"path": SEA}, [see(SEA, ("x",))])
        # Its first see, as poured, is not the one that goes to its own path.
        self.assert_refused(Both, {"path": SEA}, [see(SEA, A), see(SEA, SEA)])

    def test_two_ways_ahead_of_ring_and_nowhere(self):
        self.assert_refused(TwoWays, {"path": A}, [see(A, B), see(A, SEA), see(B, A)])
        self.assert_refused(TwoWays, {"path": A}, [see(A, B), see(A, C)])
        self.assert_refused(TwoWays, {"path": B}, [see(B, A), see(B, B)], [(A, [(1, 1, False)])])

    def test_ring_ahead_of_nowhere(self):
        self.assert_refused(Ring, {"ring": [B, C]}, [also(A, B), see(B, C), see(C, B)])

    def test_first_as_poured(self):
        self.assert_refused(Nowhere, {"path": A, "goal": B}, [see(A, B), see(C, C)])
        self.assert_refused(SentHere, {"path": A}, [see(A, A), see(C, D)])
        self.assert_refused(Nowhere, {"path": A, "goal": B}, [also(A, C), also(A, B)])
        self.assert_refused(Nowhere, {"path": A, "goal": C}, [see(A, C), also(A, B)])
        self.assert_refused(Nowhere, {"path": A, "goal": SEA}, [also(A, SEA), see(B, B), see(SEA, LAKES)])
        self.assert_refused(Both, {"path": SEA}, [see(SEA, LAKES), also(SEA, SEA)])
        self.assert_refused(Nowhere, {"path": ("a",), "goal": SEA}, [also(("a",), SEA), also(("Z",), SEA)])

    def test_each_by_all_five_ahead_of_the_next(self):
        self.assert_refused(Nowhere, {"path": A, "goal": ("x",)}, [see(A, ("x",)), see(B, B), see(SEA, LAKES)])
        self.assert_refused(Ring, {"ring": [A, B]}, [see(A, B), see(B, A), see(B, SEA)])

    def test_two_ways_of_which_one_leads_to_a_ring(self):
        # A way goes on by the first see as poured: by B to A it is a ring, by B to SEA, behind it, it would be none.
        self.assert_refused(Ring, {"ring": [A, B]}, [see(A, B), see(B, A), see(B, WATERS)])
        # Here the first is right: the see itself is let by, and then the two ways are refused.
        self.assert_refused(TwoWays, {"path": B}, [see(A, B), see(B, SEA), see(B, ("x",)), see(("x",), B)])
        # Here the first leads nowhere.
        self.assert_refused(Nowhere, {"path": A, "goal": B}, [see(A, B), see(B, C), see(B, SEA)])

    def test_right_ahead_of_both(self):
        # The way goes on through SEA, which has stretches, and comes to LAKES: not till SEA's own see is it refused.
        self.assert_refused(Both, {"path": SEA}, [see(A, SEA), see(SEA, LAKES)])
        self.assert_refused(Nowhere, {"path": A, "goal": SEA}, [see(A, SEA), see(SEA, B)])


def way_by_definition(poured, goal):
    come = [goal]
    while True:
        onward = [one[1] for one in poured if one[0] == come[-1] and not one[2]]
        if not onward:
            return come, None
        if onward[0] in come:
            ring = come[come.index(onward[0]):]
            turns = [ring[number:] + ring[:number] for number in range(len(ring))]
            return come, min(turns, key=lambda turn: rank(turn[0]))
        come.append(onward[0])


def ways_by_definition(rows, sees):
    """The ways, or the refusal's class and values."""
    there = {path: found for path, found in rows}
    poured = poured_sees([sees])
    told = []
    for path, goal, is_also in poured:
        come, ring = way_by_definition(poured, goal)
        goals = {one[1] for one in poured if one[0] == path and not one[2]}
        if goal == path:
            return SentHere, {"path": path}
        if not is_also and there.get(path):
            return Both, {"path": path}
        if not is_also and goals - {goal}:
            return TwoWays, {"path": path}
        if ring:
            return Ring, {"ring": ring}
        if come[-1] not in there or is_also and path not in there or come[-1] == path:
            return Nowhere, {"path": path, "goal": goal}
        told.append((path, goal, is_also, come[-1], len(come)))
    return told


def ways_or_refusal(rows, sees):
    try:
        return ways(rows, sees)
    except PageError as error:
        return type(error), vars(error)


class AllSmallOnes(unittest.TestCase):
    def test_three_paths(self):
        paths = (("Z",), ("a",), ("a", "b"))
        sees = [(path, goal, is_also) for path in paths for goal in paths for is_also in (False, True)]
        states = list(itertools.product((None, [], [(1, 1, False)]), repeat=3))
        for many in range(4):
            for some in itertools.combinations(sees, many):
                for state in states:
                    rows = [(path, found) for path, found in zip(paths, state) if found is not None]
                    handed = list(some)[::-1]
                    self.assertEqual(ways_or_refusal(rows, handed), ways_by_definition(rows, handed), (rows, handed))

    def test_four_paths_that_are_sent_on(self):
        paths = (("c",), ("B",), ("a",), ("a", "b"))
        goals = paths + (SEA, ("x",))
        for some in itertools.product(goals, repeat=4):
            handed = [see(path, goal) for path, goal in zip(paths, some)]
            self.assertEqual(ways_or_refusal(ROWS, handed), ways_by_definition(ROWS, handed), handed)


class Copies(unittest.TestCase):
    def test_handed_in_is_as_it_was(self):
        rows = [(path, list(found)) for path, found in ROWS]
        sees = [see(B, SEA), also(SEA, WATERS), see(A, B), see(B, SEA)]
        ways(rows, sees)
        self.assertEqual(rows, ROWS)
        self.assertEqual(sees, [see(B, SEA), also(SEA, WATERS), see(A, B), see(B, SEA)])

    def test_refused_is_as_it_was(self):
        rows = [(path, list(found)) for path, found in ROWS]
        sees = [see(B, A), see(A, B)]
        self.assertEqual(ways_or_refusal(rows, sees), (Ring, {"ring": [A, B]}))
        self.assertEqual(rows, ROWS)
        self.assertEqual(sees, [see(B, A), see(A, B)])

    def test_told_list_is_the_askers_own(self):
        for sees in ([], [see(A, SEA)]):
            told = ways(ROWS, sees)
            kept = list(told)
            told.append((A, A, False, A, 1))
            told[0] = (B, B, False, B, 1)
            self.assertEqual(ways(ROWS, sees), kept)

    def test_ring_is_the_askers_own(self):
        sees = [see(A, B), see(B, A)]
        for _ in range(2):
            with self.assertRaises(Ring) as caught:
                ways(ROWS, sees)
            self.assertEqual(caught.exception.ring, [A, B])
            self.assertIs(type(caught.exception.ring), list)
            caught.exception.ring.clear()
        self.assertEqual(sees, [see(A, B), see(B, A)])

    def test_told_list_stays(self):
        rows = [(path, list(found)) for path, found in ROWS]
        sees = [see(A, SEA)]
        told = ways(rows, sees)
        rows.clear()
        sees.clear()
        ways(ROWS, [see(B, LAKES)])
        self.assertEqual(told, [(A, SEA, False, SEA, 1)])

    def test_new_tuples_and_kinds(self):
        sees = [see(A, B), see(B, SEA), also(SEA, WATERS)]
        old = [id(path) for path, _ in ROWS] + [id(path) for one in sees for path in one[:2]]
        told = ways(ROWS, sees)
        self.assertIs(type(told), list)
        for one in told:
            self.assertIs(type(one), tuple)
            self.assertEqual([type(part) for part in one], [tuple, tuple, bool, tuple, int])
            for part in (one[0], one[1], one[3]):
                self.assertNotIn(id(part), old)


if __name__ == "__main__":
    unittest.main()
