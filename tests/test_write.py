"""[9]: writing a pattern's text."""

import unittest

from markpieces.patterns import shaped
from markpieces.read import read
from markpieces.write import write
from tests.helpers import A, B, EMPTY, SIGNS, chance_patterns, count_depth, count_forms, small_patterns

AB = ("row", (A, B))
OR = ("any", (A, B))


class Writing(unittest.TestCase):
    def assert_written(self, pattern, text):
        self.assertTrue(shaped(pattern), pattern)
        self.assertEqual(write(pattern), text)
        self.assertEqual(write(pattern), text)
        self.assertEqual(repr(read(text)), repr(pattern))

    def test_signs(self):
        self.assert_written(A, "a")
        self.assert_written(("sign", " "), " ")
        self.assert_written(("sign", "ab"), "[ab]")
        self.assert_written(("sign", " ac"), "[ ac]")
        self.assert_written(("sign", "abcdefgh"), "[abcdefgh]")
        self.assert_written(("sign", SIGNS), ".")
        self.assert_written(("sign", SIGNS[1:]), "[abcdefghijklmnopqrstuvwxyz]")
        self.assert_written(("sign", SIGNS[:-1]), "[ abcdefghijklmnopqrstuvwxy]")

    def test_rows_and_anys(self):
        self.assert_written(AB, "ab")
        self.assert_written(OR, "a|b")
        self.assert_written(("row", (A, OR)), "a(a|b)")
        self.assert_written(("row", (OR, OR)), "(a|b)(a|b)")
        self.assert_written(("any", (AB, A)), "ab|a")
        self.assert_written(("any", (AB, ("row", (OR, A)))), "ab|(a|b)a")

    def test_somes(self):
        self.assert_written(("some", 0, 1, A), "a?")
        self.assert_written(("some", 0, None, A), "a*")
        self.assert_written(("some", 1, None, A), "a+")
        self.assert_written(("some", 0, 1, AB), "(ab)?")
        self.assert_written(("some", 0, None, OR), "(a|b)*")
        self.assert_written(("some", 1, None, ("some", 0, 1, A)), "(a?)+")
        self.assert_written(("some", 0, 1, ("some", 1, None, ("some", 0, None, A))), "((a*)+)?")
        self.assert_written(("some", 0, 1, ("mark", "x", AB)), "<x:ab>?")
        self.assert_written(("some", 1, None, ("sign", "ab")), "[ab]+")
        self.assert_written(("row", (("some", 0, None, OR), A)), "(a|b)*a")

    def test_marks(self):
        self.assert_written(("mark", "abcdefgh", A), "<abcdefgh:a>")
        self.assert_written(("mark", "x", AB), "<x:ab>")
        self.assert_written(("mark", "x", OR), "<x:a|b>")
        self.assert_written(("mark", "x", ("mark", "x", ("some", 0, 1, A))), "<x:<x:a?>>")
        self.assert_written(("row", (("mark", "x", OR), ("mark", "y", A))), "<x:a|b><y:a>")

    def test_empty_rows(self):
        self.assert_written(EMPTY, "")
        self.assert_written(("any", (EMPTY, A)), "|a")
        self.assert_written(("any", (A, EMPTY)), "a|")
        self.assert_written(("any", (EMPTY, EMPTY, EMPTY)), "||")
        self.assert_written(("mark", "x", EMPTY), "<x:>")
        self.assert_written(("some", 0, 1, EMPTY), "()?")
        self.assert_written(("some", 0, None, EMPTY), "()*")
        self.assert_written(("some", 1, None, EMPTY), "()+")
        self.assert_written(("some", 0, 1, ("some", 0, None, EMPTY)), "(()*)?")
        self.assert_written(("row", (("some", 0, 1, EMPTY), A)), "()?a")
        self.assert_written(("row", (("any", (EMPTY, A)), B)), "(|a)b")
        self.assert_written(("some", 0, 1, ("any", (EMPTY, EMPTY))), "(|)?")

    def test_large_ones(self):
        most = ("row", (("sign", SIGNS[1:]),) * 59)
        self.assert_written(most, "[abcdefghijklmnopqrstuvwxyz]" * 59)
        deep, text = A, "a"
        for _ in range(11):
            deep, text = ("some", 0, 1, deep), (text if text == "a" else f"({text})") + "?"
        self.assert_written(deep, text)
        held = AB
        for _ in range(10):
            held = ("mark", "abcdefgh", held)
        self.assert_written(held, "<abcdefgh:" * 10 + "ab" + ">" * 10)
        self.assertEqual((count_forms(most), count_depth(deep), count_depth(held)), (60, 12, 12))

    def test_all_small_ones_are_read_back(self):
        for pattern in [p for forms in (1, 2, 3, 4, 5) for p in small_patterns(forms)]:
            self.assertEqual(repr(read(write(pattern))), repr(pattern))

    def test_chance_ones_are_read_back(self):
        for pattern in chance_patterns(21, 600, depth=8, names=("a", "bc", "d")):
            self.assertEqual(repr(read(write(pattern))), repr(pattern))

    def test_no_two_small_ones_are_written_alike(self):
        small = [p for forms in (1, 2, 3, 4) for p in small_patterns(forms)]
        self.assertEqual(len({write(pattern) for pattern in small}), len(set(small)))


if __name__ == "__main__":
    unittest.main()
