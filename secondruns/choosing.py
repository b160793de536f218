"""Bars that make a book rest after one pass, and lots of books that may be run in any order."""

from secondruns.asking import second
from secondruns.books import Book, wrong_book
from secondruns.comparing import any_order
from secondruns.errors import BadBar, BadRow
from secondruns.kinds import is_index, is_row
from secondruns.rules import Rule


def is_bar(book, thing):
    """Whether an object is a bar of a book."""
    if not is_row(thing) or len(thing) != 3:
        return False
    index, hole, label = thing
    return is_index(index, len(book)) and hole in book.rules[index].holes() and label in book.language.labels


def checked_bars(book, bars):
    """The bars of a list, as tuples."""
    if not is_row(bars):
        raise BadBar(0)
    for at, bar in enumerate(bars):
        if not is_bar(book, bar):
            raise BadBar(at)
    return [tuple(bar) for bar in bars]


def barred_rule(rule, further):
    """A rule with further bars, which are pairs of a hole and a label."""
    kinds = {hole: rule.kind(hole) for hole in rule.holes() if rule.kind(hole) is not None}
    bars = {hole: list(rule.bar(hole)) for hole in rule.holes()}
    for hole, label in further:
        bars[hole].append(label)
    return Rule(rule.left, rule.right, kinds, bars)


def barred(book, bars):
    """The book in which these bars are added to what is barred already."""
    rows = checked_bars(book, bars)
    rules = []
    for n, rule in enumerate(book.rules):
        rules.append(barred_rule(rule, [(hole, label) for index, hole, label in rows if index == n]))
    return Book(book.language, rules, book.below)


def choices_out_of(items):
    """All choices out of an ascending list, as ascending tuples, those with fewer items first, then in order."""
    found = [()]
    for item in items:
        found = found + [(*choice, item) for choice in found]
    return sorted(sorted(found), key=len)


def is_within(choice, other):
    """Whether all items of one choice are in another one."""
    return all([item in other for item in choice])


def least_bars(book, bars):
    """The least choices out of a list of bars with which the book rests after one pass."""
    found = []
    for choice in choices_out_of(sorted(set(checked_bars(book, bars)))):
        if not any([is_within(lesser, choice) for lesser in found]):
            if second(barred(book, choice)) is None:
                found.append(choice)
    return found


def greatest_lots(books):
    """The greatest lots of books, each two of which may be run in either order, as tuples of their indices."""
    wrong = wrong_book(books)
    if wrong is not None:
        raise BadRow(wrong)
    clashes = []
    for j, other in enumerate(books):
        clashes.extend([(i, j) for i in range(j) if not any_order(books[i], other)])
    found = []
    for lot in sorted(choices_out_of(list(range(len(books)))), key=len, reverse=True):
        is_lot = not any([is_within(clash, lot) for clash in clashes])
        if is_lot and not any([is_within(lot, greater) for greater in found]):
            found.append(lot)
    return found
