"""Integers, counts, names, letters and texts."""

import unittest

from lastprices.base import words
from lastprices.base.words import is_count, is_integer, is_letter, is_name, is_text
from tests.values import NO_LETTERS, NO_NAMES, NO_STRINGS, NO_TEXTS, check_judge

LETTERS = "abcdefghijklmnopqrstuvwxyz"
LONGEST = 10 ** 60 - 1


class WordsTest(unittest.TestCase):
    def test_constants(self):
        self.assertEqual((words.MAX_LETTERS, words.MAX_FIGURES, words.MAX_TEXT), (8, 60, 100000))

    def test_integers(self):
        bad = [value for value in NO_STRINGS if not isinstance(value, int)]
        bad += [True, False, "", "0", "-7", "a", LONGEST + 1, -LONGEST - 1, 10 ** 99, -(10 ** 99)]
        check_judge(self, is_integer, [0, -1, 1, -7, 9, 10, 10 ** 59, -(10 ** 59), LONGEST, -LONGEST], bad)

    def test_counts(self):
        bad = [value for value in NO_STRINGS if not isinstance(value, int)]
        bad += [True, False, "", "0", "1", -1, -7, -LONGEST, LONGEST + 1, -LONGEST - 1, 10 ** 99]
        check_judge(self, is_count, [0, 1, 9, 10 ** 59, LONGEST], bad)

    def test_names(self):
        good = [*LETTERS, "ab", "queue", "abcdefgh", "zzzzzzzz", "first", "last", "arc"]
        check_judge(self, is_name, good, NO_NAMES)

    def test_letters(self):
        check_judge(self, is_letter, LETTERS, NO_LETTERS)

    def test_texts(self):
        good = ["", *LETTERS, "abcdefghi", LETTERS * 100, "a" * 100000, "z" * 99999]
        check_judge(self, is_text, good, NO_TEXTS)

    def test_signs_beside_the_letters(self):
        for function in (is_name, is_letter, is_text):
            for code in range(256):
                self.assertIs(function(chr(code)), chr(code) in LETTERS, code)

    def test_one_wrong_sign_at_each_place(self):
        for at in range(8):
            word = "abcdefgh"[:at] + "B" + "abcdefgh"[at + 1:]
            self.assertIs(is_name(word), False, word)
            self.assertIs(is_text(word), False, word)
