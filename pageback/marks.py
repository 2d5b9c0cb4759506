"""Marks and sees: whether a mark fits a book, and how the hands that bring them are poured together."""

from pageback.heads import rank


def fits(mark, many):
    return 0 <= mark[1] <= mark[2] < many


def poured(hands):
    found = {}
    for hand in hands:
        for path, first, last, most in hand:
            found[(copied(path), first, last, most)] = True
    return sorted(found, key=mark_rank)


def poured_sees(hands):
    found = {}
    for hand in hands:
        for path, goal, also in hand:
            found[(copied(path), copied(goal), also)] = True
    return sorted(found, key=see_rank)


def copied(path):
    # By way of a list: a tuple made straight of a tuple would be the one that was handed in.
    return tuple(list(path))


def mark_rank(mark):
    return (rank(mark[0]), mark[1], mark[2], mark[3])


def see_rank(see):
    return (rank(see[0]), see[2], rank(see[1]))
