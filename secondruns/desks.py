"""A desk: a tree that is kept over many calls, and what was done to it, which can be taken back."""

from secondruns.books import Book, whole
from secondruns.errors import BadName, NoMark, NothingAgain, NothingBack, UnlikeLanguages
from secondruns.kinds import is_word
from secondruns.passes import Pass
from secondruns.trees import piece, placed


class Desk:
    """A tree, with a book over its language.

    `earlier` tells the trees ahead of the changes that can be taken back, and `later` those behind the
    changes that can be made again, the next one last.
    """

    def __init__(self, book, tree):
        self.book = book
        self.tree = whole(book.language, tree)
        self.kept_trees = {}
        self.earlier = []
        self.later = []

    def change(self, tree):
        """Makes another tree the present one."""
        self.earlier.append(self.tree)
        self.later = []
        self.tree = tree

    def fits(self):
        """The pairs (place, index of the rule) of the fits that a pass over the present tree does."""
        return self.book.done(self.tree)

    def run(self):
        """Makes a pass, and returns the number of the fits that were done."""
        made = Pass(self.book, self.tree)
        self.change(made.result())
        return len(made.done())

    def __iadd__(self, other):
        if not isinstance(other, Book):
            return NotImplemented
        if other.language != self.book.language:
            raise UnlikeLanguages()
        self.change(Pass(other, self.tree).result())
        return self

    def __iter__(self):
        raise TypeError("the pieces of a desk are asked for by their places")

    def __getitem__(self, at):
        return piece(self.tree, at)

    def __setitem__(self, at, worth):
        # A place that is none counts ahead of a tree that is none.
        piece(self.tree, at)
        self.change(placed(self.tree, at, whole(self.book.language, worth)))

    def mark(self, name):
        """Keeps the present tree under a word."""
        if not is_word(name):
            raise BadName(name)
        self.kept_trees[name] = self.tree

    def back(self, name):
        """Makes the tree that is kept under a word the present one."""
        if not is_word(name) or name not in self.kept_trees:
            raise NoMark(name)
        self.change(self.kept_trees[name])

    def undo(self):
        """Takes the last change back."""
        if self.earlier == []:
            raise NothingBack()
        self.later.append(self.tree)
        self.tree = self.earlier.pop()

    def redo(self):
        """Makes the change again that was taken back last."""
        if self.later == []:
            raise NothingAgain()
        self.earlier.append(self.tree)
        self.tree = self.later.pop()
