"""Runs compared: whether they give the same for all trees, or the least tree for which they do not."""

from secondruns.books import books_of
from secondruns.calls import Calls
from secondruns.errors import UnlikeLanguages
from secondruns.hunts import Hunt
from secondruns.passes import Pass


class Parting:
    """The least tree for which two runs do not give the same, and what they make of it."""

    def __init__(self, tree, results):
        self.tree = tree
        self.results = results


def least_parting(language, books, others):
    """The least tree of which passes of some books and of other ones do not make the same, or None.

    Where one list begins with all of the other one, the passes of the other one are some of its own.
    """
    if books == others:
        return None
    one, other = sorted([books, others], key=len)
    if one == other[:len(one)]:
        one_run = 0
        calls = Calls(language, [other])
    else:
        one_run = 1
        calls = Calls(language, [other, one])
    first = calls.call(0, tuple([() for _ in other]))
    second = calls.call(one_run, tuple([() for _ in one]))
    return Hunt(calls).least_parting((None, 0, first, second))


def made_of(books, tree):
    """What passes of these books make of a tree."""
    made = tree
    for book in books:
        made = Pass(book, made).result()
    return made


def parting_of(language, books, others):
    """The parting of the passes of some books and of other ones, or None if they are alike."""
    tree = least_parting(language, books, others)
    if tree is None:
        return None
    return Parting(tree, (made_of(books, tree), made_of(others, tree)))


def check_languages(one, other):
    """Raises an error if two runs have unlike languages."""
    if one.language != other.language:
        raise UnlikeLanguages()


def parting(one, other):
    """The parting of two runs, or None if they are alike."""
    check_languages(one, other)
    return parting_of(one.language, books_of(one), books_of(other))


def alike(one, other):
    """Whether two runs give the same for all trees."""
    check_languages(one, other)
    return least_parting(one.language, books_of(one), books_of(other)) is None


def order_parting(one, other):
    """The parting of two runs made in the one order and in the other one, or None if the order does not matter."""
    check_languages(one, other)
    books = books_of(one)
    others = books_of(other)
    return parting_of(one.language, books + others, others + books)


def any_order(one, other):
    """Whether two runs may be made in either order."""
    check_languages(one, other)
    books = books_of(one)
    others = books_of(other)
    return least_parting(one.language, books + others, others + books) is None


def undoes(one, other):
    """Whether the one runs, made behind the other ones, give back every tree."""
    check_languages(one, other)
    return least_parting(one.language, books_of(other) + books_of(one), []) is None


def same_again(book):
    """Whether two passes of a book give the same as one, for all trees."""
    return least_parting(book.language, [book, book], [book]) is None
