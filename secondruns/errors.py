"""All errors that the program raises: RunError and its direct subclasses.

Each one can be made of any objects, so no message is made of what is passed: the text of a
long integer or of a deep list may not be there to be had.
"""


class RunError(ValueError):
    """What all errors of the program are."""


class BadLanguage(RunError):
    """A row that cannot stand in a language, or no label without children."""

    def __init__(self, index):
        super().__init__("these rows make no language")
        self.index = index


class UnknownLabel(RunError):
    """Not one of the labels of a language."""

    def __init__(self, label):
        super().__init__("no label of the language")
        self.label = label


class NoPlace(RunError):
    """Not a place in a tree."""

    def __init__(self, place):
        super().__init__("no place in the tree")
        self.place = place


class BadText(RunError):
    """A text that is not whole, or in which a character cannot stand."""

    def __init__(self, at):
        super().__init__("the text is not written so")
        self.at = at


class BadLine(RunError):
    """A line that is not written so, or cannot stand there."""

    def __init__(self, line):
        super().__init__("a line is not written so")
        self.line = line


class BadRule(RunError):
    """An argument that cannot stand in a rule."""

    def __init__(self, word):
        super().__init__("an argument of the rule is wrong")
        self.word = word


class UnknownHole(RunError):
    """Not a hole of a rule."""

    def __init__(self, hole):
        super().__init__("no hole of the rule")
        self.hole = hole


class BadBook(RunError):
    """A rule that cannot stand in a book."""

    def __init__(self, index, word):
        super().__init__("these rules make no book")
        self.index = index
        self.word = word


class BadFlag(RunError):
    """Not a truth."""

    def __init__(self, below):
        super().__init__("neither True nor False")
        self.below = below


class UnlikeLanguages(RunError):
    """Two languages that are not equal."""

    def __init__(self):
        super().__init__("the languages are unlike")


class UnlikeWays(RunError):
    """One book goes from above, the other one from below."""

    def __init__(self):
        super().__init__("the books go unlike ways")


class BadTree(RunError):
    """Not a tree of the language."""

    def __init__(self, tree):
        super().__init__("no tree of the language")
        self.tree = tree


class BadRow(RunError):
    """An item that cannot stand in a row of passes."""

    def __init__(self, index):
        super().__init__("these books make no row")
        self.index = index


class NoBook(RunError):
    """Not the number of a book."""

    def __init__(self, at):
        super().__init__("no book has this number")
        self.at = at


class NoRule(RunError):
    """Not the number of a rule."""

    def __init__(self, index):
        super().__init__("no rule has this number")
        self.index = index


class BadCount(RunError):
    """Not a number of passes that may be asked for."""

    def __init__(self, count):
        super().__init__("no such number of passes")
        self.count = count


class NoRest(RunError):
    """A tree that the next pass would still change."""

    def __init__(self, tree):
        super().__init__("the passes have come to no rest")
        self.tree = tree


class BadBar(RunError):
    """An item that is no bar of a book."""

    def __init__(self, at):
        super().__init__("no bar of the book")
        self.at = at


class BadName(RunError):
    """Not a word."""

    def __init__(self, name):
        super().__init__("a name is a word")
        self.name = name


class NoMark(RunError):
    """Nothing is kept under this name."""

    def __init__(self, name):
        super().__init__("nothing is kept under this name")
        self.name = name


class NothingBack(RunError):
    """There is no change to take back."""

    def __init__(self):
        super().__init__("no change can be taken back")


class NothingAgain(RunError):
    """There is no change to make again."""

    def __init__(self):
        super().__init__("no change can be made again")
