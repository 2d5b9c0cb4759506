"""A keeper of a book and its marks: it is handed deeds and marks, and tells what changes in its entries."""

from pageback.entries import entries
from pageback.errors import NoMark, NoRow
from pageback.marks import poured
from pageback.moving import changes, deed_fits, moved_book, moved_marks


class Keeper:
    def __init__(self, book, most, first, marks):
        self.book = list(book)
        self.most = most
        self.first = first
        self.marks = poured([marks])
        self.known = entries(self.book, self.most, self.first, self.marks)

    def do(self, deed):
        if not deed_fits(deed, len(self.book)):
            raise NoRow(deed[1])
        return self.go_on(moved_book(self.book, deed), moved_marks(self.marks, deed))

    def put_in(self, mark):
        return self.go_on(self.book, poured([self.marks, [mark]]))

    def take_out(self, mark):
        if mark not in self.marks:
            raise NoMark()
        return self.go_on(self.book, [own for own in self.marks if own != mark])

    def go_on(self, book, marks):
        # The entries come first: they refuse a mark that does not fit, and then nothing is changed yet.
        known = entries(book, self.most, self.first, marks)
        told = changes(self.known, known)
        self.book = book
        self.marks = marks
        self.known = known
        return told

    def rows(self):
        return list(self.book)

    def marks_now(self):
        # Poured anew they are the same marks in the same order, but copies of those that are kept.
        return poured([self.marks])

    def entries_now(self):
        # Made anew and not told as they are kept, so that they are the asker's own.
        return entries(self.book, self.most, self.first, self.marks)
