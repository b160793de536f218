"""Promises [46], [47] and [48]: the examples of the document, and [2]: its two answers to each question."""

import unittest

from secondruns.asking import acts, doubling, enough, losing, second
from secondruns.books import Book, Row, settled
from secondruns.choosing import barred, greatest_lots, least_bars
from secondruns.comparing import alike, any_order, order_parting, parting, same_again, undoes
from secondruns.desks import Desk
from secondruns.languages import Language
from secondruns.overlaps import overlaps, written
from secondruns.rules import read_shape
from secondruns.trees import read_tree, tree_text
from secondruns.types import is_table, types
from tests.samples import chain

L = Language.read("one 0\nneg 1\nadd 2")
N = Book.read(L, "above\nneg(neg(?x)) -> ?x")
A = Book.read(L, "above\nadd(one, ?x) -> neg(?x)")
B = Book.read(L, "above\nneg(one) -> one")


class Examples(unittest.TestCase):
    def test_46(self):
        self.assertEqual(N.rules[0].left, read_shape("neg(neg(?x))"))
        self.assertEqual(tree_text(N(read_tree("neg(neg(neg(one)))"))), "neg(one)")
        self.assertEqual(N.done(read_tree("neg(neg(neg(one)))")), [((), 0)])
        self.assertEqual(tree_text(N(read_tree("neg(neg(neg(neg(one))))"))), "one")
        self.assertEqual(N.done(read_tree("neg(neg(neg(neg(one))))")), [((), 0), ((0, 0), 0)])
        for many in range(299):
            self.assertEqual(N(chain("neg", many, ("one",))), chain("neg", many % 2, ("one",)))
            self.assertEqual(settled(N, chain("neg", many, ("one",)), 1)[1], int(many > 1))
        self.assertIsNone(second(N))
        self.assertEqual(enough(N), 1)
        self.assertEqual((losing(N), doubling(N)), ([], []))
        self.assertTrue(is_table(N ** 2, types(N ** 2)))
        self.assertTrue(same_again(N))
        self.assertTrue(alike(N, Book(L, N.rules, True)))
        self.assertEqual(overlaps(N, N), [(0, 0, (0,))])
        self.assertEqual(written(N, N), [])
        desk = Desk(N, read_tree("neg(neg(neg(neg(one))))"))
        self.assertEqual((desk.run(), desk.tree), (2, ("one",)))

    def test_47(self):
        tree = read_tree("add(one, one)")
        self.assertEqual([tree_text(step) for step in (A * B).steps(tree)], ["add(one, one)", "neg(one)", "one"])
        self.assertEqual([tree_text(step) for step in (B * A).steps(tree)],
                         ["add(one, one)", "add(one, one)", "neg(one)"])
        self.assertEqual(B.done(tree), [])
        for nodes in range(1, 4):
            for lesser in L.trees(nodes):
                if lesser == tree:
                    break
                self.assertEqual((A * B)(lesser), (B * A)(lesser))
        self.assertIsNone(second(A))
        found = second(B)
        self.assertEqual((found.tree, found.came, found.place, found.rule, found.why), (
            read_tree("neg(neg(one))"), read_tree("neg(one)"), (), 0, "written"))
        self.assertEqual(B.origins(found.tree), {(): ("old", ()), (0,): ("new", (0,), 0)})
        self.assertEqual(acts(A * B, 1, 0), read_tree("neg(one)"))
        for found in (parting(A * B, B * A), order_parting(A, B)):
            self.assertEqual(found.tree, tree)
            self.assertEqual([tree_text(made) for made in found.results], ["one", "neg(one)"])
        self.assertFalse(any_order(A, B))
        self.assertFalse(alike(A * B, B * A))
        self.assertEqual(greatest_lots([A, B, A]), [(0, 2), (1,)])
        self.assertEqual(written(A, B), [(0, 0, "in", ())])

    def test_48(self):
        for below in ("above", "below"):
            growing = Book.read(L, f"{below}\nneg(?x) -> neg(neg(?x))")
            self.assertEqual(second(growing).tree, ("neg", ("one",)))
            self.assertIsNone(enough(growing))
            resting = Book.read(L, f"{below}\nneg(?x) -> keep(neg(?x))")
            self.assertIsNone(second(resting))
            self.assertEqual(enough(resting), 1)
            self.assertEqual(settled(resting, chain("neg", 3, ("one",)), 1)[1], 1)
            self.assertFalse(same_again(growing))
            self.assertTrue(same_again(resting))
            self.assertEqual(parting(growing, resting).tree, ("neg", ("one",)))
            bars = [(0, "x", "keep"), (0, "x", "one"), (0, "x", "neg")]
            self.assertEqual(least_bars(growing, bars), [((0, "x", "keep"), (0, "x", "one"))])
            self.assertIsNone(second(barred(growing, bars[:2])))
            self.assertEqual(least_bars(resting, bars), [()])

    def test_each_question_has_one_of_two_answers(self):
        """Never, for all greater trees as well, or the least tree, with what comes of it."""
        twice = Book.read(L, "above\nneg(?x) -> neg(neg(?x))")
        once = Book.read(L, "above\nneg(neg(?x)) -> neg(?x)")
        self.assertTrue(undoes(once, twice))
        self.assertIsNone(parting(twice * once, Book(L, [])))
        found = parting(once * twice, Row([once]))
        self.assertEqual((found.tree, found.results), (
            ("neg", ("one",)), (chain("neg", 2, ("one",)), chain("neg", 1, ("one",)))))
        for many in range(299):
            tree = chain("neg", many, ("one",))
            self.assertEqual((twice * once)(tree), tree)


if __name__ == "__main__":
    unittest.main()
