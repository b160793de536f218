"""Promise [44], as far as it speaks of languages."""

import itertools
import unittest

from secondruns.errors import BadLanguage, BadLine
from secondruns.languages import Language


class Texts(unittest.TestCase):
    def bad_line(self, text, line):
        for call in (lambda: Language.read(text), lambda: Language.read(text=text)):
            with self.assertRaises(BadLine) as caught:
                call()
            self.assertEqual(caught.exception.line, line, text)
            self.assertIs(type(caught.exception.line), int)

    def bad_language(self, text, index):
        with self.assertRaises(BadLanguage) as caught:
            Language.read(text)
        self.assertEqual(caught.exception.index, index, text)

    def test_texts_word_by_word(self):
        self.assertEqual(Language([("one", 0), ("neg", 1), ("add", 2)]).text(), "one 0\nneg 1\nadd 2")
        self.assertEqual(Language((["z", 0],)).text(), "z 0")

    def test_texts_and_back(self):
        words = ("a", "abcdefgh", "keeps", "z")
        for many in range(1, 5):
            for numbers in itertools.product((0, 1, 2), repeat=many):
                rows = list(zip(words, numbers))
                text = "\n".join(f"{label} {number}" for label, number in rows)
                if 0 not in numbers:
                    self.bad_language(text, many)
                    continue
                language = Language(rows)
                self.assertEqual(language.text(), text)
                again = Language.read(text)
                self.assertIs(type(again), Language)
                self.assertEqual(again, language)
                self.assertEqual(again.labels, language.labels)

    def test_lines_that_are_not_written_so(self):
        for line in ("", " ", "one", "one ", "one0", "one  0", " one 0", "one 0 ", "one 3", "one 00",
                     "one -1", "one +1", "one 10", "One 0", "0 one", "one zero", "one 0 0", "one\t0",
                     "a1 0", "abcdefghi 0", " 0", "keep", "keep 3", "one,0", "(one, 0)", "one 0.",
                     "?x 0", "one a", "0", "one 1 2", "-- 0", "one: 0", "one=0"):
            self.bad_line(line, 1)
            self.bad_line(f"zero 0\n{line}", 2)
            self.bad_line(f"{line}\nzero 0", 1)
            self.bad_line(f"zero 0\nneg 1\n{line}\nadd 2\n", 3)

    def test_empty_lines(self):
        self.bad_line("", 1)
        self.bad_line("\n", 1)
        self.bad_line("one 0\n", 2)
        self.bad_line("\none 0", 1)
        self.bad_line("one 0\n\nneg 1", 2)

    def test_lines_are_checked_ahead_of_the_language(self):
        self.bad_line("keep 1\none 0\nx", 3)
        self.bad_line("one 0\none 0\none 9", 3)
        self.bad_line("neg 1\n", 2)

    def test_texts_of_no_language(self):
        self.bad_language("keep 1", 0)
        self.bad_language("one 0\nkeep 1", 1)
        self.bad_language("keep 0\none 0", 0)
        self.bad_language("one 0\none 0", 1)
        self.bad_language("one 0\nneg 1\none 2\nkeep 1", 2)
        self.bad_language("neg 1", 1)
        self.bad_language("neg 1\nadd 2", 2)

    def test_a_long_text(self):
        lines = [f"{a}{b} {1}" for a, b in itertools.product("abcdefghijklmnopqrst", repeat=2)]
        text = "\n".join(["zero 0"] + lines)[:1999]
        self.assertEqual(Language.read(text[:text.rfind("\n")]).text(), text[:text.rfind("\n")])
        self.bad_line("\n" * 2000, 1)
        self.bad_line("one 0" + " " * 1995, 1)


if __name__ == "__main__":
    unittest.main()
