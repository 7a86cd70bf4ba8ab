"""The words of texts: names, integers and fractions, as a net's text writes them."""

from math import gcd

LETTERS = "abcdefghijklmnopqrstuvwxyz"
LONGEST_NAME = 6
GREATEST_TOP = 1000
GREATEST_BOTTOM = 60


def is_name(word):
    """Whether a word is a name."""
    return 1 <= len(word) <= LONGEST_NAME and all([letter in LETTERS for letter in word])


def read_integer(word):
    """The integer that a word writes as Python does, None if it writes none so."""
    figures = word[1:] if word.startswith("-") else word
    if not figures.isascii() or not figures.isdigit():
        return None
    number = int(word)
    # int also reads noughts ahead and a minus at 0, which Python never writes
    return number if str(number) == word else None


def read_fraction(word):
    """The fraction that a word writes in least terms, None if it writes none so."""
    head, slash, tail = word.partition("/")
    top = read_integer(head)
    if top is None or slash == "":
        return None if top is None else (top, 1)
    bottom = read_integer(tail)
    if bottom is None or bottom < 2 or gcd(top, bottom) != 1:
        return None
    return (top, bottom)


def fits(fraction):
    """Whether a net's text can have this fraction."""
    top, bottom = fraction
    return -GREATEST_TOP <= top <= GREATEST_TOP and bottom <= GREATEST_BOTTOM


def read_row(words):
    """The row of fractions that words of a net's text write, None if one of them is not such a word."""
    row = [read_fraction(word) for word in words]
    if not all([part is not None and fits(part) for part in row]):
        return None
    return tuple(row)
