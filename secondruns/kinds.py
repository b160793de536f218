"""The kinds of values that the whole program tells apart."""

LETTERS = "abcdefghijklmnopqrstuvwxyz"
LONGEST_WORD = 8


def is_number(thing):
    """Whether an object is an integer; truths are none."""
    return isinstance(thing, int) and not isinstance(thing, bool)


def is_index(thing, many):
    """Whether an object is the number of one of so many things, counted from 0."""
    return is_number(thing) and 0 <= thing < many


def is_row(thing):
    """Whether an object is a list, or the tuple that may be passed instead."""
    return isinstance(thing, (list, tuple))


def is_word(thing):
    """Whether an object is a string of one to eight lower-case letters."""
    if not isinstance(thing, str) or len(thing) < 1 or len(thing) > LONGEST_WORD:
        return False
    return all([letter in LETTERS for letter in thing])


def is_word_list(thing):
    """Whether an object is a list of words."""
    return is_row(thing) and all([is_word(word) for word in thing])
