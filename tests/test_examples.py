"""Promises [46], [47] and [48]: the examples of the document, as far as they speak of what is here."""

import unittest

from secondruns.asking import acts, doubling, enough, losing, second
from secondruns.books import Book, settled
from secondruns.languages import Language
from secondruns.rules import read_shape
from secondruns.trees import read_tree, tree_text
from secondruns.types import is_table, types
from tests.samples import chain

L = Language.read("one 0\nneg 1\nadd 2")
N = Book.read(L, "above\nneg(neg(?x)) -> ?x")
A = Book.read(L, "above\nadd(one, ?x) -> neg(?x)")
B = Book.read(L, "above\nneg(one) -> one")


class Examples(unittest.TestCase):
    def test_46(self):
        self.assertEqual(N.rules[0].left, read_shape("neg(neg(?x))"))
        self.assertEqual(tree_text(N(read_tree("neg(neg(neg(one)))"))), "neg(one)")
        self.assertEqual(N.done(read_tree("neg(neg(neg(one)))")), [((), 0)])
        self.assertEqual(tree_text(N(read_tree("neg(neg(neg(neg(one))))"))), "one")
        self.assertEqual(N.done(read_tree("neg(neg(neg(neg(one))))")), [((), 0), ((0, 0), 0)])
        for many in range(299):
            self.assertEqual(N(chain("neg", many, ("one",))), chain("neg", many % 2, ("one",)))
            self.assertEqual(settled(N, chain("neg", many, ("one",)), 1)[1], int(many > 1))
        self.assertIsNone(second(N))
        self.assertEqual(enough(N), 1)
        self.assertEqual((losing(N), doubling(N)), ([], []))
        self.assertTrue(is_table(N ** 2, types(N ** 2)))

    def test_47(self):
        tree = read_tree("add(one, one)")
        self.assertEqual([tree_text(step) for step in (A * B).steps(tree)], ["add(one, one)", "neg(one)", "one"])
        self.assertEqual([tree_text(step) for step in (B * A).steps(tree)],
                         ["add(one, one)", "add(one, one)", "neg(one)"])
        self.assertEqual(B.done(tree), [])
        for nodes in range(1, 4):
            for lesser in L.trees(nodes):
                if lesser == tree:
                    break
                self.assertEqual((A * B)(lesser), (B * A)(lesser))
        self.assertIsNone(second(A))
        found = second(B)
        self.assertEqual((found.tree, found.came, found.place, found.rule, found.why), (
            read_tree("neg(neg(one))"), read_tree("neg(one)"), (), 0, "written"))
        self.assertEqual(B.origins(found.tree), {(): ("old", ()), (0,): ("new", (0,), 0)})
        self.assertEqual(acts(A * B, 1, 0), read_tree("neg(one)"))

    def test_48(self):
        for below in ("above", "below"):
            growing = Book.read(L, f"{below}\nneg(?x) -> neg(neg(?x))")
            self.assertEqual(second(growing).tree, ("neg", ("one",)))
            self.assertIsNone(enough(growing))
            resting = Book.read(L, f"{below}\nneg(?x) -> keep(neg(?x))")
            self.assertIsNone(second(resting))
            self.assertEqual(enough(resting), 1)
            self.assertEqual(settled(resting, chain("neg", 3, ("one",)), 1)[1], 1)


if __name__ == "__main__":
    unittest.main()
