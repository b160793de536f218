"""Promises [12] and [13]: the texts of shapes."""

import copy
import itertools
import re
import unittest

from secondruns.errors import BadText
from secondruns.rules import read_shape, shape_text
from secondruns.trees import read_tree, tree_text
from tests.samples import as_lists, chain

WORDS = {
    "?x": "x",
    "?keep": "keep",
    "?abcdefgh": "abcdefgh",
    "x": ("x",),
    "add(?x, one)": ("add", "x", ("one",)),
    "add(?x, ?x)": ("add", "x", "x"),
    "neg(?neg)": ("neg", "neg"),
    "keep(?keep)": ("keep", "keep"),
    "f(?a, b, g(?c), ?d, h(i, ?a))": ("f", "a", ("b",), ("g", "c"), "d", ("h", ("i",), "a")),
    "abcdefgh(?z)": ("abcdefgh", "z"),
}


def lists(shape):
    if isinstance(shape, str):
        return shape
    return [shape[0]] + [lists(child) for child in shape[1:]]


class Texts(unittest.TestCase):
    def bad_text(self, text, at):
        for call in (lambda: read_shape(text), lambda: read_shape(text=text)):
            with self.assertRaises(BadText) as caught:
                call()
            self.assertEqual(caught.exception.at, at, text)
            self.assertIs(type(caught.exception.at), int)

    def test_texts_and_back(self):
        for text, shape in WORDS.items():
            for passed in (shape, lists(shape)):
                self.assertEqual(shape_text(passed), text)
                self.assertEqual(shape_text(shape=passed), text)
            self.assertEqual(read_shape(text), shape)
            self.assertEqual(read_shape(text=text), shape)

    def test_shapes_are_tuples_throughout(self):
        shape = read_shape("f(g(?x), h(a, ?y))")
        self.assertIs(type(shape), tuple)
        self.assertIs(type(shape[1]), tuple)
        self.assertIs(type(shape[2][1]), tuple)
        self.assertIs(type(shape[2][2]), str)

    def test_trees_are_shapes_without_holes(self):
        for text in ("one", "add(one, neg(one))", "f(a, b, c)"):
            self.assertEqual(read_shape(text), read_tree(text))
            self.assertEqual(shape_text(read_tree(text)), tree_text(read_tree(text)))

    def test_the_first_character_that_cannot_stand(self):
        for text, at in (
                ("", 0), (" ", 0), ("A", 0), ("(", 0), (")", 0), (",", 0), ("\n", 0), ("-", 0),
                ("?", 1), ("??", 1), ("? x", 1), ("?(", 1), ("?)", 1), ("?X", 1), ("?1", 1), ("?,", 1),
                ("?x ", 2), ("?x?", 2), ("?x(", 2), ("?x(a)", 2), ("?x)", 2), ("?x,", 2), ("?xA", 2), ("?x\n", 2),
                ("?abcdefghi", 9), ("?abcdefgh(", 9), ("x?", 1), ("x?y", 1), ("f(?", 3), ("f(?)", 3), ("f(?,", 3),
                ("f(?x", 4), ("f(?x?", 4), ("f(?x(", 4), ("f(?x ", 4), ("f(?x,", 5), ("f(?x,?y)", 5), ("f(?x, ", 6),
                ("f(?x, ?", 7), ("f(?x, ?)", 7), ("f(?x, ?y", 8), ("f(?x, ?y))", 9), ("f(?x) ", 5), ("f(?x)?", 5),
                ("f(?x)(", 5), ("f(?abcdefghi)", 11), ("f( ?x)", 2), ("f(a?x)", 3), ("f?(x)", 1), ("f(g(?x)", 7),
                ("f(g(?x),", 8), ("f(g(?x)?", 7), (" ?x", 0), ("f(?\u00e9)", 3), ("abcdefghi", 8),
                ("f(?x) -> ?x", 5)):
            self.bad_text(text, at)

    def test_all_short_texts(self):
        """What a character cannot stand behind is told here by trying to make the text whole."""
        ends = [start + ")" * n for start in ("", "a", " a") for n in range(0, 7)]

        def is_whole(text):
            made = None
            while made != text:
                made, text = text, re.sub(r"(?<![a-zX?])[a-z]{1,8}\((X|\??[a-z]{1,8})(, (X|\??[a-z]{1,8}))*\)",
                                          "X", text, count=1)
            return re.fullmatch(r"X|\??[a-z]{1,8}", text) is not None

        can_begin = {"": True}
        for length in range(1, 6):
            for signs in itertools.product("a?(), ", repeat=length):
                text = "".join(signs)
                can_begin[text] = can_begin[text[:-1]] and any(is_whole(text + end) for end in ends)
        for text in can_begin:
            if is_whole(text):
                self.assertEqual(shape_text(read_shape(text)), text)
            else:
                at = 0
                while at < len(text) and can_begin[text[:at + 1]]:
                    at += 1
                self.bad_text(text, at)

    def test_each_cut_of_a_text(self):
        text = "f(?xy, g(?z, one))"
        for at in range(len(text)):
            if at == 1:
                self.assertEqual(read_shape(text[:at]), ("f",))
            else:
                self.bad_text(text[:at], at)

    def test_texts_as_deep_as_they_allow(self):
        text = "a(" * 666 + "?" + "x" + ")" * 666
        shape = read_shape(text)
        self.assertEqual(shape_text(shape), text)
        self.bad_text("a(" * 1000, 2000)
        self.bad_text("a(" * 999 + "?", 1999)
        self.bad_text("?" * 2000, 1)
        self.bad_text(text[:-1], 1999)
        wide = "f(" + ", ".join(["?x"] * 499) + ")"
        self.assertEqual(shape_text(read_shape(wide)), wide)
        self.assertEqual(shape_text(chain("a", 300, "x")), "a(" * 300 + "?x" + ")" * 300)

    def test_holes_are_no_trees(self):
        for text, at in (("?x", 0), ("f(?x)", 2), ("f(a, ?x)", 5)):
            with self.assertRaises(BadText) as caught:
                read_tree(text)
            self.assertEqual(caught.exception.at, at)

    def test_what_is_passed_stays(self):
        shape = as_lists(("f", ("g", ("a",)), ("b",)))
        shape[1][1] = "x"
        kept = copy.deepcopy(shape)
        self.assertEqual(shape_text(shape), "f(g(?x), b)")
        self.assertEqual(shape, kept)


if __name__ == "__main__":
    unittest.main()
