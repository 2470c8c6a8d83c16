"""[12]: idle, twice, sound."""

import unittest

from markpieces.judge import judged
from markpieces.patterns import names_of
from markpieces.read import read
from markpieces.signs import is_text
from markpieces.ways import pieces_of, way_holds
from tests.helpers import chance_patterns, is_idle, marks_twice, small_patterns, texts, whole_ways


class Judged(unittest.TestCase):
    def assert_judged(self, pattern, word):
        told = judged(pattern)
        self.assertIsInstance(told, tuple)
        self.assertEqual(told[0], word, pattern)
        self.assertEqual(repr(judged(pattern)), repr(told))
        if word != "twice":
            self.assertEqual(told, (word,))
            return
        _, name, text, way = told
        self.assertIn(name, names_of(pattern))
        self.assertTrue(is_text(text), text)
        self.assertIs(way_holds(pattern, text, way), True, told)
        pieces = [piece for piece in pieces_of(pattern, way, 0) if piece[0] == name]
        self.assertGreaterEqual(len(pieces), 2)

    def test_idle(self):
        for text in ("()*", "()+", "(a?)*", "(a*)+", "(|a)*", "(<x:>)*", "b(a?b?)+", "<x:(a*)*>", "a|(a|(b*)+)?",
                     "((a?)+)?", "<x:(a*)*><x:a>"):
            self.assert_judged(read(text), "idle")

    def test_not_idle(self):
        for text in ("", "a", "()?", "(a?)?", "(a*)?", "a*", "(a+)*", "(a?b)*", "((a?)?)?", "|", "(a+|b)+"):
            self.assert_judged(read(text), "sound")

    def test_twice(self):
        for text in ("<x:a><x:b>", "<x:a>?b<x:c>?", "<x:<x:>>", "<x:a|<x:b>>", "<x:a>*", "<x:a>+", "(a|<x:b>)*",
                     "<y:a(b<x:c>?)+>", "(<x:a>|<y:b>)(<y:a>|<z:b>)", "a|b(<x:>|c)<x:>", "<x:<y:<x:a>>>",
                     "(c<x:a>+)?", "<a:b>(<b:a>|<c:(d|<a:>e)f>)", "(<x:a><x:b>|b)+", ".<x:.>.*<x:[^a-z]>",
                     "(<x:<x:a>?>b?)?c+"):
            self.assert_judged(read(text), "twice")

    def test_sound(self):
        for text in ("<x:a><y:b>", "<x:a>|<x:b>", "<x:a>?", "(<x:a>|<x:b>|<y:<x:c>>)?", "<x:<y:>>", "a*<x:b+>a*",
                     "(<x:a>|b)(<y:a>|b)", "<a:.*><b:.*><c:.*><d:.*>", "<x:>", "(((<x:>)?)?)?"):
            self.assert_judged(read(text), "sound")

    def test_the_twice_has_a_way_that_needs_what_stands_around(self):
        self.assert_judged(read("a+[bc](d|ef|<x:g+h>*)i?(j|)k"), "twice")
        self.assertEqual(judged(read("b<x:a>+"))[1:3], ("x", "baa"))
        self.assertEqual(judged(read("<x:a>b?<x:c>")), ("twice", "x", "ac", (0, (), 1)))

    def test_large_ones(self):
        self.assert_judged(read("a" * 28 + "(" + "b" * 25 + "<x:c>)+"), "twice")
        self.assert_judged(read("(" + "b" * 55 + "<x:c>)+"), "twice")
        self.assert_judged(read("(" * 9 + "<x:a>?" + ")?" * 9), "sound")
        self.assert_judged(read("(" * 9 + "<x:a>+" + ")?" * 9), "twice")
        self.assert_judged(read("a" * 59), "sound")

    def test_all_small_ones_by_all_their_ways(self):
        for pattern in [p for forms in (1, 2, 3, 4) for p in small_patterns(forms, "xy", "a")]:
            if is_idle(pattern):
                self.assert_judged(pattern, "idle")
            else:
                found = [pieces for text in texts("a", 4) for way, pieces in whole_ways(pattern, text)]
                twice = any(len({name for name, begin, end in told}) < len(told) for told in found)
                self.assert_judged(pattern, "twice" if twice else "sound")

    def test_chance_ones_by_the_last_words(self):
        words = {"idle": 0, "twice": 0, "sound": 0}
        for depth in (3, 4, 5, 7):
            for pattern in chance_patterns(40 + depth, 400, depth=depth):
                word = "idle" if is_idle(pattern) else "twice" if marks_twice(pattern) else "sound"
                self.assert_judged(pattern, word)
                words[word] += 1
        self.assertGreater(min(words.values()), 100, words)


if __name__ == "__main__":
    unittest.main()
