"""Promises [4], [9], [11] and [12]: places and pieces of trees, and their texts."""

import copy
import itertools
import re
import unittest

from secondruns.errors import BadText, NoPlace
from secondruns.languages import Language
from secondruns.trees import piece, placed, places, read_tree, size, tree_text
from tests.samples import (
    as_lists, as_mixed, chain, is_integer, objects, only_tuples, slow_places, slow_size, slow_text,
)

L = [("one", 0), ("neg", 1), ("add", 2)]
TREE = ("add", ("neg", ("one",)), ("keep", ("add", ("two",), ("one",))))


def some_trees():
    found = [tree for nodes in range(1, 6) for tree in Language(L).trees(nodes)]
    return found + [TREE, ("wide", ("a",), ("b", ("c",)), ("d",), ("e", ("f",), ("g",), ("h",)))]


class Places(unittest.TestCase):
    def test_size_and_places(self):
        for tree in some_trees():
            for passed in (tree, as_lists(tree), as_mixed(tree), as_mixed(tree, 1)):
                self.assertEqual(size(passed), slow_size(tree))
                self.assertEqual(size(tree=passed), slow_size(tree))
                self.assertEqual(places(passed), slow_places(tree))
                self.assertEqual(places(tree=passed), slow_places(tree))

    def test_places_word_by_word(self):
        self.assertEqual(places(("one",)), [()])
        self.assertEqual(places(TREE), [
            (), (0,), (0, 0), (1,), (1, 0), (1, 0, 0), (1, 0, 1)])
        self.assertEqual(size(TREE), 7)

    def test_the_list_is_a_new_one_each_time(self):
        found = places(TREE)
        self.assertIs(type(found), list)
        self.assertTrue(all(type(place) is tuple for place in found))
        found.append("more")
        self.assertEqual(places(TREE), slow_places(TREE))
        self.assertIsNot(places(TREE), places(TREE))

    def test_deep_trees(self):
        tree = chain("neg", 299, ("one",))
        self.assertEqual(size(tree), 300)
        self.assertEqual(places(as_lists(tree)), [(0,) * n for n in range(300)])
        self.assertEqual(size(chain("neg", 3000, ("one",))), 3001)
        self.assertEqual(places(chain("neg", 1500, ("one",)))[-1], (0,) * 1500)


class Pieces(unittest.TestCase):
    def slow_piece(self, tree, place):
        for k in place:
            tree = tree[k + 1]
        return tree

    def slow_placed(self, tree, place, other):
        if not place:
            return other
        k = place[0] + 1
        return tree[:k] + (self.slow_placed(tree[k], place[1:], other),) + tree[k + 1:]

    def test_piece_at_each_place(self):
        for tree in some_trees():
            for place in slow_places(tree):
                wanted = self.slow_piece(tree, place)
                for passed in (tree, as_lists(tree), as_mixed(tree)):
                    for at in (place, list(place)):
                        found = piece(passed, at)
                        self.assertEqual(found, wanted)
                        self.assertTrue(only_tuples(found))
                self.assertEqual(piece(tree=tree, place=place), wanted)

    def test_placed_at_each_place(self):
        others = [("x",), ["x"], ("y", ("x",), ["x"]), ["keep", ["add", ("a",), ["b"]]]]
        for tree in some_trees():
            for place in slow_places(tree):
                for other in others:
                    wanted = self.slow_placed(tree, place, read_tree(tree_text(other)))
                    for passed in (tree, as_lists(tree), as_mixed(tree, 1)):
                        for at in (place, list(place)):
                            found = placed(passed, at, other)
                            self.assertEqual(found, wanted)
                            self.assertTrue(only_tuples(found))
                    self.assertEqual(placed(tree=tree, place=place, other=other), wanted)

    def test_words(self):
        self.assertEqual(piece(TREE, ()), TREE)
        self.assertEqual(piece(TREE, (1, 0, 0)), ("two",))
        self.assertEqual(placed(TREE, (), ["one"]), ("one",))
        self.assertEqual(
            placed(TREE, [0], ["one"]), ("add", ("one",), ("keep", ("add", ("two",), ("one",)))))
        self.assertEqual(
            placed(TREE, (1, 0, 1), ("neg", ["z"])),
            ("add", ("neg", ("one",)), ("keep", ("add", ("two",), ("neg", ("z",))))))

    def no_place(self, tree, place):
        for call in (lambda: piece(tree, place), lambda: placed(tree, place, ("x",))):
            with self.assertRaises(NoPlace) as caught:
                call()
            self.assertIs(caught.exception.place, place)

    def test_no_place(self):
        for tree in some_trees():
            for found in slow_places(tree):
                many = len(self.slow_piece(tree, found)) - 1
                for k in (many, many + 1, -1, -2, -many - 1, 10 ** 30, True, False, None, "0", (), [0],
                          (0,), {}, "", "one"):
                    self.no_place(tree, found + (k,))
                    self.no_place(as_lists(tree), list(found) + [k])
                self.no_place(tree, found + (-1,) + found)
        self.no_place(TREE, (2,))
        self.no_place(TREE, (False,))
        self.no_place(TREE, (True, 0))
        self.no_place(TREE, (1, False))
        self.no_place(TREE, (0, 0, 0))

    def test_objects_that_are_no_place(self):
        for thing in objects():
            if thing in ((), []) and isinstance(thing, (list, tuple)):
                self.assertEqual(piece(TREE, thing), TREE)
            elif isinstance(thing, (list, tuple)) and all(is_integer(k) for k in thing):
                self.assertEqual(thing[0], 0)
                self.assertEqual(piece(TREE, thing), TREE[1])
            else:
                self.no_place(TREE, thing)

    def test_what_is_passed_stays(self):
        tree = as_lists(TREE)
        other = ["neg", ["x"]]
        place = [1, 0]
        kept = copy.deepcopy([tree, other, place])
        made = placed(tree, place, other)
        found = piece(tree, place)
        self.assertEqual([tree, other, place], kept)
        tree[2][1][1][0] = "changed"
        other[1][0] = "changed"
        self.assertEqual(made, ("add", ("neg", ("one",)), ("keep", ("neg", ("x",)))))
        self.assertEqual(found, ("add", ("two",), ("one",)))

    def test_deep_trees(self):
        tree = chain("neg", 299, ("one",))
        for depth in (0, 1, 150, 299):
            self.assertEqual(piece(tree, (0,) * depth), chain("neg", 299 - depth, ("one",)))
            self.assertEqual(placed(as_lists(tree), [0] * depth, ["x"]), chain("neg", depth, ("x",)))
        self.no_place(tree, (0,) * 300)
        found = piece(placed(chain("neg", 2000, ("one",)), (0,) * 2000, ["x"]), (0,) * 1999)
        self.assertEqual(found, ("neg", ("x",)))


class Texts(unittest.TestCase):
    def bad_text(self, text, at):
        for call in (lambda: read_tree(text), lambda: read_tree(text=text)):
            with self.assertRaises(BadText) as caught:
                call()
            self.assertEqual(caught.exception.at, at, text)
            self.assertIs(type(caught.exception.at), int)

    def test_texts_and_back(self):
        for tree in some_trees():
            text = slow_text(tree)
            for passed in (tree, as_lists(tree), as_mixed(tree)):
                self.assertEqual(tree_text(passed), text)
            self.assertEqual(tree_text(tree=tree), text)
            found = read_tree(text)
            self.assertEqual(found, tree)
            self.assertTrue(only_tuples(found))

    def test_texts_word_by_word(self):
        self.assertEqual(tree_text(("add", ("one",), ("neg", ("one",)))), "add(one, neg(one))")
        self.assertEqual(tree_text(["one"]), "one")
        self.assertEqual(read_tree("add(one, neg(one))"), ("add", ("one",), ("neg", ("one",))))
        self.assertEqual(read_tree("one"), ("one",))
        self.assertEqual(read_tree("keep"), ("keep",))
        self.assertEqual(read_tree("keep(a, b, c)"), ("keep", ("a",), ("b",), ("c",)))
        self.assertEqual(read_tree("abcdefgh(z)"), ("abcdefgh", ("z",)))

    def test_the_order_of_children_is_kept(self):
        wide = ("f",) + tuple((letter,) for letter in "abcdefghijklmnopqrstuvwxyz")
        self.assertEqual(tree_text(wide), "f(" + ", ".join("abcdefghijklmnopqrstuvwxyz") + ")")
        self.assertEqual(read_tree(tree_text(wide)), wide)

    def test_the_first_character_that_cannot_stand(self):
        for text, at in (
                ("", 0), (" ", 0), ("A", 0), ("?x", 0), ("(", 0), (")", 0), (",", 0), ("0", 0), ("\n", 0),
                (" a", 0), ("a ", 1), ("a)", 1), ("a,", 1), ("a, b", 1), ("aB", 1), ("a1", 1), ("a_", 1),
                ("a (b)", 1), ("a(", 2), ("a()", 2), ("a( b)", 2), ("a(,", 2), ("a((", 2), ("a(?x)", 2),
                ("a(b", 3), ("a(b ", 3), ("a(b,", 4), ("a(b,c)", 4), ("a(b,)", 4), ("a(b,\n", 4),
                ("a(b,,", 4), ("a(b, ", 5), ("a(b,  c)", 5), ("a(b, )", 5), ("a(b, (", 5),
                ("a(b, c", 6), ("a(b) ", 4), ("a(b))", 4), ("a(b)c", 4), ("a(b)(c)", 4), ("a(b), c", 4),
                ("a(b)\n", 4), ("a\n", 1), ("a(b(c)", 6), ("a(b(c),", 7), ("a(b(c), ", 8),
                ("a(b(c)d", 6), ("a(b(c) ", 6), ("a(b(c)(", 6), ("abcdefghi", 8), ("abcdefghi(a)", 8),
                ("a(abcdefghi", 10), ("a(abcdefgh", 10), ("a(abcdefgh,abcdefghi)", 11),
                ("a(b, abcdefghi)", 13), ("abcdefghA", 8), ("\u00e9", 0), ("a\u00e9", 1), ("a(\u00df)", 2)):
            self.bad_text(text, at)

    def test_all_short_texts(self):
        """What a character cannot stand behind is told here by trying to make the text whole."""
        ends = ["", "a", " a"] + [start + ")" * n for start in ("", "a", " a") for n in range(1, 8)]

        def is_whole(text):
            made = None
            while made != text:
                made, text = text, re.sub(r"(?<![a-zX])[a-z]{1,8}\((X|[a-z]{1,8})(, (X|[a-z]{1,8}))*\)",
                                          "X", text, count=1)
            return re.fullmatch("X|[a-z]{1,8}", text) is not None

        can_begin = {"": True}
        for length in range(1, 7):
            for signs in itertools.product("a(), ", repeat=length):
                text = "".join(signs)
                can_begin[text] = can_begin[text[:-1]] and any(is_whole(text + end) for end in ends)
        for text in can_begin:
            if is_whole(text):
                self.assertEqual(slow_text(read_tree(text)), text)
            else:
                at = 0
                while at < len(text) and can_begin[text[:at + 1]]:
                    at += 1
                self.bad_text(text, at)

    def test_each_cut_and_each_change_of_a_text(self):
        text = "add(neg(one), keep(add(two, one)))"
        for at in range(len(text)):
            if re.fullmatch("[a-z]+", text[:at]):
                self.assertEqual(read_tree(text[:at]), (text[:at],))
            else:
                self.bad_text(text[:at], at)
            self.bad_text(text[:at] + "?" + text[at:], at)
            self.bad_text(text[:at] + "A" + text[at + 1:], at)
        self.bad_text(text + "?", len(text))

    def test_texts_as_deep_as_they_allow(self):
        depth = 666
        text = "a(" * depth + "a" + ")" * depth
        self.assertEqual(len(text), 1999)
        tree = read_tree(text)
        self.assertEqual(tree_text(tree), text)
        self.assertEqual(size(tree), depth + 1)
        self.assertEqual(len(places(tree)[-1]), depth)
        self.bad_text("a(" * 1000, 2000)
        self.bad_text("a(" * 999 + "a)", 2000)
        self.bad_text("a(" * 999 + "((", 1998)
        self.bad_text(text + ")", 1999)
        self.bad_text(text[:-1], 1998)
        self.bad_text("(" * 2000, 0)
        self.bad_text(")" * 2000, 0)
        self.bad_text("a" * 2000, 8)
        both = "f(a, " * 333 + "a" + ")" * 333
        self.assertEqual(tree_text(read_tree(both)), both)
        wide = "f(" + ", ".join(["a"] * 666) + ")"
        self.assertEqual(tree_text(read_tree(wide)), wide)
        self.assertEqual(size(read_tree(wide)), 667)

    def test_what_is_passed_stays(self):
        tree = as_lists(TREE)
        kept = copy.deepcopy(tree)
        tree_text(tree)
        self.assertEqual(tree, kept)


if __name__ == "__main__":
    unittest.main()
