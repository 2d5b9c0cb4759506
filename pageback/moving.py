"""Rows put into a book or cut out of it, the marks that go with their rows, and what changes in the entries."""

from pageback.heads import rank
from pageback.marks import copied, poured


def deed_fits(deed, many):
    at = deed[1]
    # A row can be put in behind the last one, but none can be cut there.
    return 0 <= at <= many if deed[0] == "put" else 0 <= at < many


def moved_book(book, deed):
    at = deed[1]
    if deed[0] == "put":
        return book[:at] + [deed[2]] + book[at:]
    return book[:at] + book[at + 1:]


def moved_marks(marks, deed):
    moved = behind_put(marks, deed[1]) if deed[0] == "put" else behind_cut(marks, deed[1])
    # Marks may have become the same, and no longer stand in their order.
    return poured([moved])


def behind_put(marks, at):
    return [
        (path, first + 1 if first >= at else first, last + 1 if last >= at else last, most)
        for path, first, last, most in marks
    ]


def behind_cut(marks, at):
    return [
        (path, first - 1 if first > at else first, last - 1 if last >= at else last, most)
        for path, first, last, most in marks
        if first != at or last != at
    ]


def changes(old, new):
    ahead = copied_stretches(old)
    behind = copied_stretches(new)
    paths = list(ahead) + [path for path in behind if path not in ahead]
    # What is no entry is told as None, which is not the same as no stretches either.
    return [
        (path, ahead.get(path), behind.get(path))
        for path in sorted(paths, key=rank)
        if ahead.get(path) != behind.get(path)
    ]


def copied_stretches(rows):
    found = {}
    for path, told in rows:
        found[copied(path)] = [(first, last, strong) for first, last, strong in told]
    return found
