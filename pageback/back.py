"""The back pages: from the texts of a book and of its hands to the columns."""

from pageback.columns import best, columns
from pageback.entries import entries
from pageback.lines import lines
from pageback.marks import poured, poured_sees
from pageback.sees import ways
from pageback.texts import read_book, read_hand


def back_pages(book_text, hand_texts, height, prices):
    read = read_book(book_text)
    hands = [read_hand(text) for text in hand_texts]
    rows = entries(read[0], read[1], read[2], poured([hand[0] for hand in hands]))
    found = ways(rows, poured_sees([hand[1] for hand in hands]))
    some = lines(rows, found)
    told = best([line[0] for line in some], height, prices)
    return columns(some, height, told[0])
