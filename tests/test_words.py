"""Stage 1: the module words, and what promises 0.1 and 0.5 say of its functions."""

import string
import unittest

from chainpacks.base.words import MAX_FIGURES, MAX_LETTERS, is_count, is_integer, is_name, is_size
from wrong_values import not_counts, not_integers, not_size_values


class TestExamples(unittest.TestCase):
    def test_example_of_the_document(self):
        told = [is_integer(10 ** 50), is_count(-1), is_size(0), is_name("Box"), is_name("box"), is_size(True)]
        self.assertEqual(told, [True, False, False, False, True, False])

    def test_constants(self):
        self.assertEqual((MAX_FIGURES, MAX_LETTERS), (200, 8))


class TestNumbers(unittest.TestCase):
    def check(self, call, value, expected):
        self.assertIs(call(value), expected, (call.__name__, value))

    def test_small_integers(self):
        for value in range(-30, 31):
            self.check(is_integer, value, True)
            self.check(is_count, value, value >= 0)
            self.check(is_size, value, value >= 1)

    def test_lengths_about_the_limit(self):
        for figures in (198, 199, 200):
            for value in (10 ** (figures - 1), 10 ** figures - 1, 5 * 10 ** (figures - 1) + 3):
                for call in (is_integer, is_count, is_size):
                    self.check(call, value, True)
                self.check(is_integer, -value, True)
                self.check(is_count, -value, False)
                self.check(is_size, -value, False)

    def test_lengths_over_the_limit(self):
        for figures in (201, 202, 220, 240, 241, 242, 250, 1000, 5000):
            for value in (10 ** (figures - 1), 10 ** figures - 1):
                for call in (is_integer, is_count, is_size):
                    self.check(call, value, False)
                    self.check(call, -value, False)

    def test_powers_of_two_about_the_limit(self):
        for power in range(655, 675):
            for value in (2 ** power - 1, 2 ** power, -2 ** power):
                self.check(is_integer, value, abs(value) < 10 ** 200)

    def test_other_values_are_refused(self):
        for value in not_integers():
            self.check(is_integer, value, False)
        for value in not_counts():
            self.check(is_count, value, False)
        for value in not_size_values():
            self.check(is_size, value, False)

    def test_booleans_are_no_integers(self):
        for value in (True, False):
            for call in (is_integer, is_count, is_size):
                self.check(call, value, False)


class TestNames(unittest.TestCase):
    def test_each_letter_and_each_length(self):
        for letter in string.ascii_lowercase:
            for many in range(1, 9):
                self.assertIs(is_name(letter * many), True)
            self.assertIs(is_name(letter * 9), False)

    def test_lengths(self):
        self.assertIs(is_name(""), False)
        self.assertIs(is_name("abcdefgh"), True)
        self.assertIs(is_name("abcdefghi"), False)
        self.assertIs(is_name("a" * 8000), False)

    def test_other_signs(self):
        for code in range(0, 256):
            sign = chr(code)
            expected = sign in string.ascii_lowercase
            self.assertIs(is_name(sign), expected, sign)
            self.assertIs(is_name("ab" + sign), expected, sign)
            self.assertIs(is_name(sign + "ab"), expected, sign)
        for sign in ("\u00e9", "\u0430", "\uff41", "\u00df"):
            self.assertIs(is_name(sign), False)

    def test_other_kinds(self):
        for value in not_integers() + [0, 1]:
            if value != "box":
                self.assertIs(is_name(value), False, value)
        for value in (("box",), ["b", "o", "x"], {"box": 1}, ("b",), ["b"], {"b": 1}):
            self.assertIs(is_name(value), False, value)


if __name__ == "__main__":
    unittest.main()
