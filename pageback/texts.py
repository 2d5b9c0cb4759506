"""Texts: how a book and a hand are read, and how a hand is written."""

from pageback.errors import NoText
from pageback.heads import is_head

MOST_FIGURES = 60
MOST_HEADS = 6


def read_book(text):
    rows = text.split("\n")
    parts = rows[0].split(" ")
    if not is_book_row(parts):
        raise NoText(1)
    for number, row in enumerate(rows[1:], start=2):
        if row != "row" and row != "new":
            raise NoText(number)
    return ([row == "new" for row in rows[1:]], int(parts[1]), int(parts[2]))


def is_book_row(parts):
    if len(parts) != 3 or parts[0] != "book":
        return False
    return is_number(parts[1]) and parts[1] != "0" and is_number(parts[2])


def is_number(text):
    if len(text) == 0 or len(text) > MOST_FIGURES or (text[0] == "0" and text != "0"):
        return False
    # Python takes other figures, signs and blanks for numbers, too: only these ten can stand here.
    return all([sign in "0123456789" for sign in text])


def read_hand(text):
    rows = text.split("\n")
    if rows[0] != "hand":
        raise NoText(1)
    marks = []
    sees = []
    for number, row in enumerate(rows[1:], start=2):
        mark = mark_in(row)
        see = see_in(row)
        if mark is not None:
            marks.append(mark)
        elif see is not None:
            sees.append(see)
        else:
            raise NoText(number)
    return (marks, sees)


def mark_in(row):
    # Blanks from the fourth part on are the path's own.
    parts = row.split(" ", 3)
    if len(parts) < 4 or parts[0] not in ("tell", "most"):
        return None
    path = path_in(parts[3])
    if path is None or not is_number(parts[1]) or not is_number(parts[2]):
        return None
    return (path, int(parts[1]), int(parts[2]), parts[0] == "most")


def see_in(row):
    parts = row.partition(" ")
    paths = [path_in(part) for part in parts[2].split(" > ")]
    if parts[0] not in ("see", "also") or len(paths) != 2 or None in paths:
        return None
    return (paths[0], paths[1], parts[0] == "also")


def path_in(text):
    heads = text.split("; ")
    if len(heads) > MOST_HEADS or not all([is_head(head) for head in heads]):
        return None
    return tuple(heads)


def shown_hand(marks, sees):
    return "\n".join(["hand"] + [mark_row(mark) for mark in marks] + [see_row(see) for see in sees])


def mark_row(mark):
    return " ".join(["most" if mark[3] else "tell", str(mark[1]), str(mark[2]), "; ".join(mark[0])])


def see_row(see):
    return " ".join(["also" if see[2] else "see", "; ".join(see[0]), ">", "; ".join(see[1])])
