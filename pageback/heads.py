"""Heads and paths: which texts are heads, how heads and paths are shown and ordered."""

MOST_SIGNS = 40
LETTERS_AND_FIGURES = "abcdefghijklmnopqrstuvwxyzABCDEFGHIJKLMNOPQRSTUVWXYZ0123456789"


def is_head(text):
    parts = text.split("|")
    if len(text) > MOST_SIGNS or len(parts) > 2:
        return False
    return all([is_part(part) for part in parts])


def is_part(text):
    # A blank at the beginning, at the end or beside another one leaves an empty word, and so does an empty part:
    # all of them are refused as words.
    return all([is_word(word) for word in text.split(" ")])


def is_word(text):
    return text != "" and all([sign == "-" or sign in LETTERS_AND_FIGURES for sign in text])


def shown(head):
    if "|" not in head:
        return head
    bar = head.index("|")
    return head[bar + 1:] + ", " + head[:bar]


def key_of(head):
    return "".join([sign for sign in shown(head) if sign in LETTERS_AND_FIGURES]).lower()


def rank(path):
    return [(key_of(head), shown(head)) for head in path]


def path_shown(path):
    return ": ".join([shown(head) for head in path])
