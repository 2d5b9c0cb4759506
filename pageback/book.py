"""The book: on which page each of its rows stands."""


def pages(book, most, first):
    told = []
    page = first
    filled = 0
    for new in book:
        # The first row stands on the first page even if it begins a new one: nothing is filled ahead of it.
        if filled > 0 and (new or filled >= most):
            page = page + 1
            filled = 0
        filled = filled + 1
        told.append(page)
    return told
