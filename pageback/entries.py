"""The entries of a book and its marks: each path with its pages, and the paths above these."""

from pageback.book import pages
from pageback.errors import OutOfBook
from pageback.heads import rank
from pageback.marks import fits, poured
from pageback.stretches import stretches


def entries(book, most, first, marks):
    ordered = poured([marks])
    refuse_unfit(ordered, len(book))
    numbers = pages(book, most, first)
    found = marks_by_path(ordered)
    return [(path, stretches(numbers, found[path])) for path in sorted(found, key=rank)]


def refuse_unfit(ordered, many):
    for mark in ordered:
        if not fits(mark, many):
            raise OutOfBook(mark[0], mark[1], mark[2])


def marks_by_path(ordered):
    found = {}
    for mark in ordered:
        path = mark[0]
        # A path above has no marks of its own yet, perhaps never: it is an entry all the same.
        for many in range(1, len(path)):
            found.setdefault(path[:many], [])
        found.setdefault(path, []).append(mark)
    return found
