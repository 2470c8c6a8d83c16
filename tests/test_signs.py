"""[3] and [4]: numbers, signs, texts, names."""

import unittest

from markpieces.errors import Unread
from markpieces.kinds import is_number
from markpieces.signs import LONG, SIGNS, is_name, is_text
from tests.helpers import odd_things


class Signs(unittest.TestCase):
    def test_signs_are_the_blank_and_the_small_letters(self):
        self.assertEqual(SIGNS, " abcdefghijklmnopqrstuvwxyz")
        self.assertEqual(SIGNS, "".join(sorted(SIGNS)))
        self.assertEqual(len(SIGNS), 27)
        self.assertEqual(LONG, 200)

    def test_texts(self):
        for text in ("", " ", "a", "z", "a b", SIGNS, "a" * 199, "a" * 200, " " * 200):
            self.assertIs(is_text(text), True, text)

    def test_no_texts(self):
        for thing in ("a" * 201, "A", "aB", "a-b", "1", "\n", "a\n", "\t", "\u00e9", "~", "`", "{", "\u0430"):
            self.assertIs(is_text(thing), False, thing)
        for thing in (None, True, False, 0, 7, (), ("a",), [], ["a"], b"a", Unread(0)):
            self.assertIs(is_text(thing), False)

    def test_names_have_one_to_eight_letters(self):
        for name in ("a", "z", "ab", "abcdefg", "abcdefgh", "zzzzzzzz"):
            self.assertIs(is_name(name), True, name)
        for thing in ("", "abcdefghi", " ", "a b", "a ", "A", "a1", "a_b", "ab\n", "\u00e9"):
            self.assertIs(is_name(thing), False, thing)
        for thing in (None, True, 1, ("a",), ["a"], ["a", "b"], (), [], b"a", Unread(0)):
            self.assertIs(is_name(thing), False)

    def test_whatever_it_is_has_an_answer_and_stays(self):
        for thing in odd_things():
            before = repr(thing)
            for asked in (is_text, is_name):
                told = asked(thing)
                self.assertIsInstance(told, bool)
                self.assertIs(asked(thing), told)
            self.assertEqual(repr(thing), before)

    def test_true_and_false_are_no_numbers(self):
        for thing in (0, 1, -1, 10 ** 40):
            self.assertIs(is_number(thing), True)
        for thing in (True, False, None, "1", (1,), [1]):
            self.assertIs(is_number(thing), False)


if __name__ == "__main__":
    unittest.main()
