"""Promises [4], [7], [8], [9] and [10]: languages, what is a tree of them, and their order."""

import copy
import itertools
import types
import unittest

from secondruns.errors import BadLanguage, RunError, UnknownLabel
from secondruns.languages import Language
from tests.samples import (
    as_lists, as_mixed, chain, nested_dict, nested_list, nested_tuple, objects, only_tuples,
    slow_is_less, slow_size, slow_trees,
)

ROWS = [
    [("one", 0)],
    [("one", 0), ("neg", 1)],
    [("neg", 1), ("one", 0)],
    [("one", 0), ("two", 0)],
    [("one", 0), ("add", 2)],
    [("add", 2), ("one", 0)],
    [("one", 0), ("neg", 1), ("add", 2)],
    [("add", 2), ("neg", 1), ("one", 0)],
    [("z", 1), ("a", 0), ("y", 2), ("b", 0)],
    [("a", 0), ("b", 0), ("c", 0), ("d", 1)],
    [("abcdefgh", 0), ("f", 1), ("g", 1), ("h", 1)],
    [("keeps", 0), ("kee", 1)],
]

L = [("one", 0), ("neg", 1), ("add", 2)]


class Rows(unittest.TestCase):
    def wrong(self, rows, index):
        with self.assertRaises(BadLanguage) as caught:
            Language(rows)
        self.assertEqual(caught.exception.index, index, rows)
        self.assertIs(type(caught.exception.index), int)
        with self.assertRaises(BadLanguage) as caught:
            Language(rows=rows)
        self.assertEqual(caught.exception.index, index, rows)

    def test_labels_len_and_children(self):
        for rows in ROWS:
            language = Language(rows)
            self.assertEqual(language.labels, tuple(label for label, _ in rows) + ("keep",))
            self.assertIs(type(language.labels), tuple)
            self.assertEqual(len(language), len(rows))
            for label, number in rows + [("keep", 1)]:
                self.assertEqual(language.children(label), number)
                self.assertEqual(language.children(label=label), number)

    def test_lists_and_tuples_alike(self):
        for rows in ROWS:
            for outer, inner in itertools.product((list, tuple), repeat=2):
                passed = outer(inner(row) for row in rows)
                language = Language(passed)
                self.assertEqual(language, Language(rows))
                self.assertEqual(language.labels, Language(rows).labels)

    def test_rows_that_are_no_list(self):
        for thing in objects():
            if not isinstance(thing, (list, tuple)):
                self.wrong(thing, 0)
        self.wrong({("one", 0): 1}, 0)

    def test_rows_that_are_no_pair(self):
        for thing in objects():
            self.wrong([thing] if thing != ["one", 0] and thing != ("one", 0) else [0], 0)
            if thing not in (["one", 0], ("one", 0)):
                self.wrong([("zero", 0), thing], 1)
                self.wrong([("zero", 0), ("neg", 1), thing, ("keep", 1)], 2)
        self.wrong([("one",)], 0)
        self.wrong([("one", 0, 0)], 0)
        self.wrong([["one", 0, ()]], 0)
        self.wrong(["o0"], 0)
        self.wrong([{"one": 0, 0: "one"}], 0)
        self.wrong([{0: "one", 1: 0}], 0)

    def test_labels_that_are_no_word(self):
        for label in objects() + ["One", "on e", "one ", " one", "one\n", "a1", "a_b", "a-b", "\u00e9",
                                  "\u00df", "\u0131", "abcdefghi", "`", "{", "("]:
            good = label in ("a", "one")
            if not good:
                self.wrong([(label, 0)], 0)
                self.wrong([("zero", 0), [label, 1]], 1)

    def test_all_letters_and_lengths_make_words(self):
        for label in list("abcdefghijklmnopqrstuvwxyz") + ["a" * n for n in range(1, 9)]:
            self.assertEqual(Language([(label, 0)]).labels, (label, "keep"))

    def test_keep_is_not_listed(self):
        self.wrong([("keep", 0)], 0)
        self.wrong([("keep", 1)], 0)
        self.wrong([("one", 0), ("keep", 1)], 1)
        self.wrong([("one", 0), ("neg", 1), ["keep", 0], 5], 2)

    def test_a_label_twice(self):
        self.wrong([("one", 0), ("one", 0)], 1)
        self.wrong([("one", 0), ("neg", 1), ("one", 1)], 2)
        self.wrong([("one", 0), ("neg", 1), ("neg", 1), ("one", 0)], 2)
        self.wrong([("neg", 1), ("neg", 1)], 1)

    def test_numbers_that_are_none(self):
        for number in objects() + [3, -2]:
            if type(number) is int and number in (0, 1, 2):
                continue
            self.wrong([("one", number)], 0)
            self.wrong([("zero", 0), ("one", number)], 1)

    def test_the_first_wrong_row_is_told(self):
        self.wrong([("one", 0), ("one", 0), ("keep", 1)], 1)
        self.wrong([("one", 0), ("keep", 1), ("one", 0)], 1)
        self.wrong([("neg", 1), ("add", 3), 5], 1)
        self.wrong([5, 6], 0)

    def test_no_label_without_children(self):
        self.wrong([], 0)
        self.wrong((), 0)
        self.wrong([("neg", 1)], 1)
        self.wrong([("neg", 1), ("add", 2)], 2)
        self.wrong((("a", 1), ("b", 1), ("c", 1), ("d", 2)), 4)

    def test_what_is_passed_stays_and_its_later_changes_have_no_effect(self):
        rows = [["one", 0], ["neg", 1]]
        kept = copy.deepcopy(rows)
        language = Language(rows)
        self.assertEqual(rows, kept)
        rows[0][0] = "two"
        rows[1][1] = 0
        rows.append(["add", 2])
        self.assertEqual(language, Language(kept))
        self.assertEqual(language.labels, ("one", "neg", "keep"))
        self.assertEqual(len(language), 2)
        self.assertEqual(language.children("neg"), 1)
        self.assertEqual(language.text(), "one 0\nneg 1")
        wrong = [["one", 0], ["one", 5]]
        self.wrong(wrong, 1)
        self.assertEqual(wrong, [["one", 0], ["one", 5]])


class Equality(unittest.TestCase):
    def test_equal_if_the_rows_are(self):
        for one, other in itertools.product(ROWS, repeat=2):
            self.assertIs(Language(one) == Language(other), one == other)
            self.assertIs(Language(one) != Language(other), one != other)
        self.assertTrue(Language([["one", 0]]) == Language((("one", 0),)))

    def test_like_labels_with_other_numbers_or_order(self):
        language = Language(L)
        for rows in ([("one", 0), ("neg", 1), ("add", 1)], [("one", 0), ("neg", 0), ("add", 2)],
                     [("neg", 1), ("one", 0), ("add", 2)], L[:2], L + [("two", 0)]):
            self.assertFalse(language == Language(rows))
            self.assertTrue(language != Language(rows))

    def test_a_language_equals_nothing_else(self):
        language = Language(L)
        for thing in objects() + [L, tuple(L), language.labels, language.text(), dict(L), 3]:
            self.assertIs(language == thing, False)
            self.assertIs(thing == language, False)
            self.assertIs(language != thing, True)


class Labels(unittest.TestCase):
    def test_unknown_labels(self):
        for rows in ROWS:
            language = Language(rows)
            for label in objects() + ["onee", "on", "Keep", "keep ", ("keep",), ["keep"]]:
                if isinstance(label, str) and label in language.labels:
                    continue
                with self.assertRaises(UnknownLabel) as caught:
                    language.children(label)
                self.assertIs(caught.exception.label, label)


class Trees(unittest.TestCase):
    def setUp(self):
        self.language = Language(L)

    def told(self, thing):
        result = self.language.is_tree(thing)
        self.assertIs(type(result), bool)
        self.assertIs(self.language.is_tree(thing=thing), result)
        return result

    def test_trees_as_tuples_as_lists_and_mixed(self):
        for nodes in range(1, 6):
            for tree in slow_trees(L, nodes):
                self.assertTrue(self.told(tree))
                self.assertTrue(self.told(as_lists(tree)))
                self.assertTrue(self.told(as_mixed(tree)))
                self.assertTrue(self.told(as_mixed(tree, 1)))

    def test_each_wrong_node_is_seen_at_each_depth(self):
        for wrong in ((), [], ("one", ("one",)), ("neg",), ("neg", ("one",), ("one",)), ("add",),
                      ("add", ("one",)), ("add", ("one",), ("one",), ("one",)), ("keep",),
                      ("keep", ("one",), ("one",)), ("two",), ("two", ("one",)), "one", 1, None,
                      ("ONE",), (1,), (("one",),), ({},), {}, {"one": 0}, {0: "one"},
                      ("neg", "one"), (True,), (None,), (["one"],), "neg(one)"):
            self.assertFalse(self.told(wrong), wrong)
            self.assertFalse(self.told(("neg", wrong)), wrong)
            self.assertFalse(self.told(["keep", wrong]), wrong)
            self.assertFalse(self.told(("add", ("one",), wrong)), wrong)
            self.assertFalse(self.told(("add", wrong, ["one"])), wrong)
            self.assertFalse(self.told(chain("neg", 299, wrong)), wrong)
            self.assertFalse(self.told(chain("keep", 3, wrong)), wrong)

    def test_any_object(self):
        good = [("one",), ["one"], ("neg", ("one",)), ["neg", ["one"]]]
        for thing in objects():
            self.assertIs(self.told(thing), thing in good, thing)
        self.assertFalse(self.told(nested_list("neg")))
        self.assertFalse(self.told(nested_tuple("neg")))
        self.assertFalse(self.told(nested_dict("neg")))
        self.assertFalse(self.told(self.language))

    def test_trees_of_other_languages(self):
        self.assertFalse(Language([("one", 0)]).is_tree(("neg", ("one",))))
        self.assertTrue(Language([("one", 0)]).is_tree(("keep", ("one",))))
        self.assertTrue(Language([("neg", 0)]).is_tree(("neg",)))
        self.assertFalse(Language([("neg", 0)]).is_tree(("neg", ("neg",))))
        self.assertTrue(Language([("keeps", 0)]).is_tree(["keep", ["keeps"]]))

    def test_deep_and_wide_trees(self):
        self.assertTrue(self.told(chain("neg", 299, ("one",))))
        self.assertTrue(self.told(as_lists(chain("keep", 299, ("one",)))))
        self.assertTrue(self.told(chain("neg", 1999, ("one",))))
        wide = ("one",)
        for _ in range(8):
            wide = ("add", wide, wide)
        self.assertTrue(self.told(wide))

    def test_what_is_asked_about_stays(self):
        tree = ["add", ["neg", ["one"]], ["keep", ["two"]]]
        kept = copy.deepcopy(tree)
        self.assertFalse(self.told(tree))
        self.assertEqual(tree, kept)


class Order(unittest.TestCase):
    def test_is_less_both_ways(self):
        for rows, most in ((L, 4), (ROWS[5], 5), (ROWS[2], 4), (ROWS[8], 3)):
            language = Language(rows)
            found = [tree for n in range(1, most + 1) for tree in slow_trees(rows, n)]
            for one, other in itertools.product(found, repeat=2):
                told = slow_is_less(language.labels, one, other)
                self.assertIs(language.is_less(one, other), told, (one, other))
                self.assertIs(language.is_less(as_mixed(one), as_lists(other)), told)

    def test_words_of_the_order(self):
        language = Language(L)
        one, neg = ("one",), ("neg", ("one",))
        keep = ("keep", ("one",))
        ordered = [
            one, neg, keep, ("neg", neg), ("neg", keep), ("add", one, one), ("keep", neg),
            ("keep", keep), ("add", one, neg), ("add", one, keep), ("add", neg, one),
            ("add", keep, one), ("add", one, ("neg", neg)), ("add", neg, keep), ("add", keep, neg),
        ]
        for k, tree in enumerate(ordered):
            for n, other in enumerate(ordered):
                self.assertIs(language.is_less(tree, other), k < n, (tree, other))
                self.assertIs(language.is_less(one=tree, other=other), k < n)

    def test_equal_trees_are_not_less(self):
        language = Language(L)
        for nodes in range(1, 5):
            for tree in language.trees(nodes):
                self.assertIs(language.is_less(tree, as_lists(tree)), False)

    def test_the_order_is_that_of_the_labels_not_of_the_alphabet(self):
        language = Language([("z", 0), ("a", 0)])
        self.assertTrue(language.is_less(("z",), ("a",)))
        self.assertFalse(language.is_less(("a",), ("z",)))
        self.assertTrue(Language([("z", 0), ("y", 1)]).is_less(("y", ("z",)), ("keep", ("z",))))

    def test_deep_trees(self):
        language = Language(L)
        one = chain("neg", 298, ("neg", ("one",)))
        other = chain("neg", 298, ("keep", ("one",)))
        self.assertTrue(language.is_less(one, other))
        self.assertFalse(language.is_less(other, one))
        self.assertFalse(language.is_less(one, as_lists(one)))
        self.assertTrue(language.is_less(one[1], one))

    def test_what_is_compared_stays(self):
        language = Language(L)
        one, other = ["add", ["one"], ["neg", ["one"]]], ["add", ["neg", ["one"]], ["one"]]
        kept = copy.deepcopy([one, other])
        self.assertTrue(language.is_less(one, other))
        self.assertEqual([one, other], kept)


class AllTrees(unittest.TestCase):
    def test_all_trees_of_one_to_five_nodes_in_order(self):
        for rows in ROWS:
            language = Language(rows)
            for nodes in range(1, 6):
                found = list(language.trees(nodes))
                wanted = slow_trees(rows, nodes)
                self.assertEqual(len(found), len(wanted))
                self.assertEqual(set(found), set(wanted))
                for one, other in zip(found, found[1:]):
                    self.assertTrue(slow_is_less(language.labels, one, other), (one, other))
                for tree in found:
                    self.assertTrue(language.is_tree(tree))
                    self.assertTrue(only_tuples(tree))
                    self.assertEqual(slow_size(tree), nodes)
                self.assertEqual(list(language.trees(nodes=nodes)), found)

    def test_the_first_ones_word_by_word(self):
        one = ("one",)
        language = Language(L)
        self.assertEqual(list(language.trees(1)), [one])
        self.assertEqual(list(language.trees(2)), [("neg", one), ("keep", one)])
        self.assertEqual(list(language.trees(3)), [
            ("neg", ("neg", one)), ("neg", ("keep", one)), ("add", one, one),
            ("keep", ("neg", one)), ("keep", ("keep", one)),
        ])

    def test_there_is_no_tree_without_nodes(self):
        for rows in ROWS:
            self.assertEqual(list(Language(rows).trees(0)), [])
            self.assertEqual(list(Language(rows).trees(-3)), [])

    def test_it_is_a_generator(self):
        found = Language(L).trees(3)
        self.assertIsInstance(found, types.GeneratorType)
        self.assertEqual(next(found), ("neg", ("neg", ("one",))))
        self.assertEqual(next(found), ("neg", ("keep", ("one",))))

    def test_the_first_of_many_comes_at_once(self):
        self.assertEqual(next(Language(L).trees(16)), chain("neg", 15, ("one",)))
        first = next(Language(ROWS[7]).trees(16))
        wanted = ("neg", ("one",))
        for _ in range(7):
            wanted = ("add", ("one",), wanted)
        self.assertEqual(first, wanted)
        found = Language(ROWS[8]).trees(300)
        for _ in range(100):
            tree = next(found)
            self.assertEqual(slow_size(tree), 300)
        for rows in ROWS:
            self.assertTrue(only_tuples(next(Language(rows).trees(5000))))

    def test_two_at_a_time_do_not_meet(self):
        language = Language(L)
        for one, other in zip(language.trees(4), language.trees(4)):
            self.assertEqual(one, other)


class Conventions(unittest.TestCase):
    def test_errors_are_run_errors_and_value_errors(self):
        for call in (lambda: Language(5), lambda: Language(L).children("two")):
            with self.assertRaises(RunError):
                call()
            with self.assertRaises(ValueError):
                call()


if __name__ == "__main__":
    unittest.main()
