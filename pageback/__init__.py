"""Pageback: back pages of a book, made, moved and set in columns."""
