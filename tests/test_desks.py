"""Promise [43]: a desk."""

import random
import unittest

from secondruns.books import Book
from secondruns.desks import Desk
from secondruns.errors import (
    BadName, BadTree, NoMark, NoPlace, NothingAgain, NothingBack, RunError, UnlikeLanguages,
)
from secondruns.languages import Language
from secondruns.trees import piece, placed, places, read_tree, size
from tests.drawn import Drawing
from tests.samples import as_lists, as_mixed, chain, is_integer, objects, only_tuples
from tests.slow import slow_done, slow_pass

L = Language([("one", 0), ("neg", 1), ("add", 2)])
N = Book.read(L, "above\nneg(neg(?x)) -> ?x")
A = Book.read(L, "above\nadd(one, ?x) -> neg(?x)")
B = Book.read(L, "above\nneg(one) -> one")


def is_word(thing):
    return isinstance(thing, str) and 0 < len(thing) <= 8 and set(thing) <= set("abcdefghijklmnopqrstuvwxyz")


def desk_of(text, book=N):
    return Desk(book, read_tree(text))


class Making(unittest.TestCase):
    def test_attributes(self):
        desk = desk_of("neg(neg(one))")
        self.assertIs(desk.book, N)
        self.assertEqual(desk.tree, ("neg", ("neg", ("one",))))
        self.assertIn("book", vars(desk))
        self.assertIn("tree", vars(desk))

    def test_trees_as_lists_changed_later(self):
        tree = ["neg", ["add", ["one"], ["one"]]]
        desk = Desk(N, tree)
        tree[1][1][0] = "neg"
        tree.append(["one"])
        self.assertEqual(desk.tree, read_tree("neg(add(one, one))"))
        self.assertTrue(only_tuples(desk.tree))
        other = ["neg", ["one"]]
        desk[0, 1] = other
        other[1] = ["neg", ["one"]]
        self.assertEqual(desk.tree, read_tree("neg(add(one, neg(one)))"))
        self.assertTrue(only_tuples(desk.tree))
        self.assertTrue(only_tuples(Desk(N, as_mixed(desk.tree)).tree))

    def test_bad_trees(self):
        for thing in objects() + [("two",), ("neg",), ("add", ("one",)), N, [["one"]], ["keep", ["keep"]]]:
            if not L.is_tree(thing):
                with self.assertRaises(BadTree) as caught:
                    Desk(N, thing)
                self.assertIs(caught.exception.tree, thing)

    def test_a_tree_of_another_language(self):
        other = Book(Language([("one", 0), ("neg", 1)]), [])
        with self.assertRaises(BadTree):
            Desk(other, read_tree("add(one, one)"))
        self.assertEqual(Desk(other, read_tree("neg(one)")).tree, ("neg", ("one",)))

    def test_deep_trees(self):
        desk = Desk(N, as_lists(chain("neg", 299, ("one",))))
        self.assertEqual(desk.run(), 149)
        self.assertEqual(desk.tree, ("neg", ("one",)))
        desk.undo()
        self.assertEqual(size(desk.tree), 300)
        self.assertEqual(desk[(0,) * 298], ("neg", ("one",)))
        desk[(0,) * 299] = ("keep", ("one",))
        self.assertEqual(desk[(0,) * 299], ("keep", ("one",)))
        self.assertEqual(size(desk.tree), 301)


class Passes(unittest.TestCase):
    def test_fits(self):
        desk = desk_of("add(neg(neg(one)), neg(neg(neg(one))))")
        self.assertEqual(desk.fits(), [((0,), 0), ((1,), 0)])
        desk.fits().append(7)
        self.assertEqual(desk.fits(), N.done(desk.tree))
        desk.run()
        self.assertEqual(desk.fits(), [])

    def test_run(self):
        desk = desk_of("add(neg(neg(one)), neg(neg(neg(one))))")
        self.assertEqual(desk.run(), 2)
        self.assertEqual(desk.tree, read_tree("add(one, neg(one))"))
        self.assertEqual(desk.run(), 0)
        self.assertIs(type(desk.run()), int)
        self.assertEqual(desk.tree, read_tree("add(one, neg(one))"))

    def test_run_counts_what_is_done_in_contents_that_are_dropped(self):
        book = Book.read(L, "above\nadd(?x, ?y) -> ?x\nneg(one) -> one")
        desk = desk_of("add(one, add(neg(one), neg(one)))", book)
        self.assertEqual(desk.run(), 4)
        self.assertEqual(desk.tree, ("one",))

    def test_another_book(self):
        desk = desk_of("add(one, one)", A)
        same = desk
        desk += B
        self.assertIs(desk, same)
        self.assertEqual(desk.tree, read_tree("add(one, one)"))
        self.assertIs(desk.book, A)
        desk.run()
        self.assertEqual(desk.tree, read_tree("neg(one)"))
        desk += B
        self.assertIs(desk, same)
        self.assertEqual(desk.tree, read_tree("one"))
        self.assertIs(desk.book, A)

    def test_a_book_of_an_equal_language(self):
        desk = desk_of("neg(one)", A)
        desk += Book.read(Language([["one", 0], ["neg", 1], ["add", 2]]), "below\nneg(one) -> one")
        self.assertEqual(desk.tree, ("one",))

    def test_unlike_languages(self):
        for rows in ([("one", 0)], [("neg", 1), ("one", 0), ("add", 2)], [("one", 0), ("neg", 2), ("add", 2)],
                     [("two", 0), ("neg", 1), ("add", 2)]):
            desk = same = desk_of("neg(neg(one))")
            with self.assertRaises(UnlikeLanguages):
                desk += Book(Language(rows), [])
            self.assertIs(desk, same)
            self.assertEqual(desk.tree, read_tree("neg(neg(one))"))
            with self.assertRaises(NothingBack):
                desk.undo()


class Pieces(unittest.TestCase):
    def test_pieces(self):
        tree = read_tree("add(neg(one), add(one, neg(neg(one))))")
        desk = Desk(N, tree)
        for place in places(tree):
            self.assertEqual(desk[place], piece(tree, place))
            self.assertEqual(desk[list(place)], piece(tree, place))
            self.assertTrue(only_tuples(desk[place]))
        self.assertEqual(desk[1, 1], read_tree("neg(neg(one))"))
        self.assertEqual(desk[()], tree)

    def test_setting(self):
        tree = read_tree("add(neg(one), add(one, neg(neg(one))))")
        other = read_tree("neg(add(one, one))")
        for place in places(tree):
            desk = Desk(N, tree)
            desk[place] = as_lists(other)
            self.assertEqual(desk.tree, placed(tree, place, other))
            self.assertTrue(only_tuples(desk.tree))
            desk.undo()
            self.assertEqual(desk.tree, tree)
            desk[list(place)] = other
            self.assertEqual(desk[place], other)

    def test_no_place(self):
        desk = desk_of("add(neg(one), one)")
        wrong = [(2,), (-1,), (0, 1), (0, 0, 0), (1, 0), (True,), ("0",), (None,), [2], 0, None, {}, "", {(): 1}]
        for thing in wrong + objects():
            if isinstance(thing, (list, tuple)) and all([is_integer(k) for k in thing]) and tuple(thing) in places(
                    desk.tree):
                continue
            for deed in (lambda: desk[thing], lambda: desk.__setitem__(thing, ("one",)),
                         lambda: desk.__setitem__(thing, None)):
                with self.assertRaises(NoPlace) as caught:
                    deed()
                self.assertIs(caught.exception.place, thing)
        self.assertEqual(desk.tree, read_tree("add(neg(one), one)"))
        with self.assertRaises(NothingBack):
            desk.undo()

    def test_bad_trees(self):
        desk = desk_of("add(neg(one), one)")
        for thing in objects() + [("two",), ["neg"], ("add", ("one",)), N]:
            if not L.is_tree(thing):
                for place in ((), (0,), (0, 0), [1]):
                    with self.assertRaises(BadTree) as caught:
                        desk[place] = thing
                    self.assertIs(caught.exception.tree, thing)
        self.assertEqual(desk.tree, read_tree("add(neg(one), one)"))
        with self.assertRaises(NothingBack):
            desk.undo()

    def test_places_come_ahead_of_trees(self):
        desk = desk_of("one")
        with self.assertRaises(NoPlace):
            desk[0,] = "no tree"
        with self.assertRaises(BadTree):
            desk[()] = "no tree"

    def test_not_iterated_over(self):
        with self.assertRaises(TypeError):
            iter(desk_of("neg(one)"))


class Marks(unittest.TestCase):
    def test_mark_and_back(self):
        desk = desk_of("neg(neg(neg(one)))")
        desk.mark("start")
        desk.run()
        desk.mark("end")
        self.assertEqual(desk.tree, ("neg", ("one",)))
        desk.back("start")
        self.assertEqual(desk.tree, read_tree("neg(neg(neg(one)))"))
        desk.back("end")
        self.assertEqual(desk.tree, ("neg", ("one",)))

    def test_a_mark_that_is_kept_twice(self):
        desk = desk_of("neg(neg(one))")
        desk.mark("a")
        desk.run()
        desk.mark("a")
        desk[()] = read_tree("add(one, one)")
        desk.back("a")
        self.assertEqual(desk.tree, ("one",))

    def test_marks_of_two_desks(self):
        one, other = desk_of("neg(one)"), desk_of("one")
        one.mark("here")
        with self.assertRaises(NoMark):
            other.back("here")
        other.mark("here")
        one[()] = ("one",)
        one.back("here")
        other.back("here")
        self.assertEqual((one.tree, other.tree), (("neg", ("one",)), ("one",)))

    def test_marks_are_not_taken_back(self):
        desk = desk_of("neg(neg(one))")
        desk.run()
        desk.mark("one")
        desk.undo()
        self.assertEqual(desk.tree, read_tree("neg(neg(one))"))
        desk.back("one")
        self.assertEqual(desk.tree, ("one",))
        with self.assertRaises(NothingAgain):
            desk.redo()
        desk.undo()
        self.assertEqual(desk.tree, read_tree("neg(neg(one))"))
        with self.assertRaises(NothingBack):
            desk.undo()

    def test_marks_are_no_changes(self):
        desk = desk_of("neg(neg(one))")
        desk.mark("a")
        with self.assertRaises(NothingBack):
            desk.undo()
        desk.run()
        desk.undo()
        desk.mark("b")
        desk.redo()
        self.assertEqual(desk.tree, ("one",))

    def test_bad_names(self):
        desk = desk_of("one")
        for thing in objects() + ["abcdefghi", "A", "aB", "a1", " a", "a ", "\u00e4", b"a"]:
            if is_word(thing):
                desk.mark(thing)
                desk.back(thing)
            else:
                with self.assertRaises(BadName) as caught:
                    desk.mark(thing)
                self.assertIs(caught.exception.name, thing)
                with self.assertRaises(NoMark) as caught:
                    desk.back(thing)
                self.assertIs(caught.exception.name, thing)

    def test_no_mark(self):
        desk = desk_of("neg(neg(one))")
        desk.mark("start")
        for name in ("star", "starts", "end", "keep", "", ("start",), ["start"]):
            with self.assertRaises(NoMark) as caught:
                desk.back(name)
            self.assertIs(caught.exception.name, name)
        with self.assertRaises(NothingBack):
            desk.undo()


class Changes(unittest.TestCase):
    def test_nothing_to_take_back(self):
        desk = desk_of("one")
        for _ in range(2):
            with self.assertRaises(NothingBack) as caught:
                desk.undo()
            self.assertEqual(vars(caught.exception), {})
            with self.assertRaises(NothingAgain) as caught:
                desk.redo()
            self.assertEqual(vars(caught.exception), {})

    def test_undo_and_redo(self):
        desk = desk_of("neg(neg(one))")
        desk.run()
        desk[()] = read_tree("neg(one)")
        desk += B
        seen = [desk.tree]
        for _ in range(3):
            desk.undo()
            seen.append(desk.tree)
        self.assertEqual(seen, [read_tree(text) for text in ("one", "neg(one)", "one", "neg(neg(one))")])
        with self.assertRaises(NothingBack):
            desk.undo()
        for tree in seen[2::-1]:
            desk.redo()
            self.assertEqual(desk.tree, tree)
        with self.assertRaises(NothingAgain):
            desk.redo()

    def test_each_change_counts_also_if_the_tree_stays(self):
        desk = desk_of("one")
        self.assertEqual(desk.run(), 0)
        desk += B
        desk[()] = ("one",)
        desk.mark("a")
        desk.back("a")
        for _ in range(4):
            desk.undo()
            self.assertEqual(desk.tree, ("one",))
        with self.assertRaises(NothingBack):
            desk.undo()
        for _ in range(4):
            desk.redo()
        with self.assertRaises(NothingAgain):
            desk.redo()

    def test_a_new_change_forgets_what_was_taken_back(self):
        def run(desk):
            desk.run()

        def add(desk):
            desk += Book(L, [])

        def put(desk):
            desk[()] = desk.tree

        def back(desk):
            desk.mark("now")
            desk.back("now")

        for change in (run, add, put, back):
            desk = desk_of("neg(neg(neg(neg(one))))", B)
            desk += N
            desk[()] = ("add", ("one",), ("one",))
            desk.undo()
            desk.undo()
            desk.redo()
            change(desk)
            self.assertEqual(desk.tree, ("one",))
            with self.assertRaises(NothingAgain):
                desk.redo()
            desk.undo()
            self.assertEqual(desk.tree, ("one",))
            desk.undo()
            self.assertEqual(desk.tree, read_tree("neg(neg(neg(neg(one))))"))

    def test_what_raises_an_error_is_no_change(self):
        desk = desk_of("neg(neg(one))")
        desk.run()
        desk.undo()
        alien = Book(Language([("one", 0)]), [])

        def add():
            nonlocal desk
            desk += alien

        for deed in (add, lambda: desk.__setitem__((5,), ("one",)), lambda: desk.__setitem__((), ("two",)),
                     lambda: desk.back("none"), lambda: desk.mark(""), desk.undo):
            with self.assertRaises(RunError):
                deed()
            self.assertEqual(desk.tree, read_tree("neg(neg(one))"))
        desk.redo()
        self.assertEqual(desk.tree, ("one",))

    def test_looking_is_no_change(self):
        desk = desk_of("neg(neg(one))")
        desk.run()
        desk.undo()
        desk.fits()
        desk[0,]
        desk.redo()
        self.assertEqual(desk.tree, ("one",))

    def test_results_of_deeds(self):
        desk = desk_of("neg(neg(one))")
        self.assertIsNone(desk.mark("a"))
        self.assertIsNone(desk.back("a"))
        self.assertIsNone(desk.undo())
        self.assertIsNone(desk.redo())
        self.assertEqual(desk.run(), 1)


class Plain:
    """A desk as plain lists of trees."""

    def __init__(self, book, tree):
        self.book = book
        self.row = [tree]
        self.at = 0
        self.marks = {}

    def tree(self):
        return self.row[self.at]

    def change(self, tree):
        self.row[self.at + 1:] = [tree]
        self.at += 1


class Drawn(unittest.TestCase):
    def test_long_rows_of_deeds(self):
        for number in range(10000, 10030):
            drawing = Drawing(number)
            rng = random.Random(number)
            book = drawing.straight_book(4)
            others = [drawing.straight_book(3) for _ in range(3)]
            start = drawing.greater_tree(12)
            desk, plain = Desk(book, start), Plain(book, start)
            names = ["a", "b", "c"]
            for _ in range(150):
                deed = rng.randrange(9)
                desk = self.do(deed, desk, plain, rng, drawing, others, names)
                self.assertEqual(desk.tree, plain.tree())
                self.assertEqual(desk.fits(), slow_done(book, plain.tree()))
                if size(desk.tree) > 60:
                    desk[()] = start
                    plain.change(start)

    def do(self, deed, desk, plain, rng, drawing, others, names):
        """Does one deed at both desks."""
        if deed == 0:
            self.assertEqual(desk.run(), len(slow_done(plain.book, plain.tree())))
            plain.change(slow_pass(plain.book, plain.tree())[0])
        elif deed == 1:
            other = rng.choice(others)
            desk += other
            plain.change(slow_pass(other, plain.tree())[0])
        elif deed == 2:
            place = rng.choice(places(plain.tree()))
            other = drawing.greater_tree(rng.randint(1, 6))
            desk[place] = as_lists(other)
            plain.change(placed(plain.tree(), place, other))
        elif deed == 3:
            name = rng.choice(names)
            self.assertIsNone(desk.mark(name))
            plain.marks[name] = plain.tree()
        elif deed == 4:
            name = rng.choice(names)
            if name in plain.marks:
                self.assertIsNone(desk.back(name))
                plain.change(plain.marks[name])
            else:
                self.assertRaises(NoMark, desk.back, name)
        elif deed in (5, 6):
            if plain.at > 0:
                self.assertIsNone(desk.undo())
                plain.at -= 1
            else:
                self.assertRaises(NothingBack, desk.undo)
        elif deed == 7:
            if plain.at < len(plain.row) - 1:
                self.assertIsNone(desk.redo())
                plain.at += 1
            else:
                self.assertRaises(NothingAgain, desk.redo)
        else:
            place = rng.choice(places(plain.tree()))
            self.assertEqual(desk[place], piece(plain.tree(), place))
        return desk


if __name__ == "__main__":
    unittest.main()
