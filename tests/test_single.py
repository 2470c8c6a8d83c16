"""[16]: whether each row is told by one way only."""

import unittest

from markpieces.read import read
from markpieces.single import single
from markpieces.ways import row_of, way_holds
from tests.helpers import count_forms, few_ways, frozen, is_sound, small_patterns, sound_patterns, texts, ways_by_row


class Single(unittest.TestCase):
    def assert_double(self, pattern):
        told = single(pattern)
        self.assertIsInstance(told, tuple)
        self.assertEqual((len(told), told[0]), (4, "double"), pattern)
        _, text, way, other = told
        self.assertIsInstance(text, str)
        self.assertNotEqual(repr(way), repr(other))
        self.assertIs(way_holds(pattern, text, way), True)
        self.assertIs(way_holds(pattern, text, other), True)
        self.assertEqual(row_of(pattern, way), row_of(pattern, other))
        return text

    def test_singles(self):
        for text in ("", "a", "a*", "(a|b)*", "(a|ab)(c|d)?", "<x:a*><y:a*>", "a*<x:b>a*", "<x:a>|<y:a>", "<x:>|",
                     "<x:a*>a*", "a?<x:>a?b", "(aa)*(b|)", "<x:a?><y:a?><z:a?>", "(<x:a>|a)b", "[ab]*c[ab]*",
                     "a*<x:><y:>b*", "<x:a*<y:>a*>"):
            self.assertEqual(single(read(text)), ("single",), text)

    def test_doubles(self):
        for text in ("a|a", "a*a*", "(|)", "(a|aa)*", "<x:a|a>", "a?<x:b>?a?", "<x:>|<x:>", "(ab|a)(ba|a)", "([ab]|b)c",
                     "(.|z)", "a?a?", "(a*|b)(b|)", "(()?)?", "<x:a?a?>b", "(a+)+", "(a|b)+b*"):
            self.assert_double(read(text))

    def test_two_ways_that_meet_far_off(self):
        # They are of lengths 3 * k and 4 * m: the first that both have is 12.
        text = self.assert_double(read("(aaa)+|(aaaa)+"))
        self.assertEqual(text, "a" * 12)
        pattern = read("(aaaaa)+|(aaaa)+")
        self.assertEqual(count_forms(pattern), 14)
        self.assertEqual(len(self.assert_double(pattern)), 20)
        self.assertEqual(len(self.assert_double(read("(aaaaa)+|b|(aaa)+"))), 15)
        self.assertEqual(single(read("(aaa)+|(aaaa)+b")), ("single",))
        pattern = read("<x:(aaa)+>|<x:(aaaa)+>")
        self.assertEqual(count_forms(pattern), 14)
        self.assertEqual(self.assert_double(pattern), "a" * 12)
        self.assertEqual(single(read("<x:(aaa)+>|<y:(aaaa)+>")), ("single",))

    def test_ways_that_part_and_meet_by_their_marks(self):
        self.assertEqual(single(read("a*<x:>a*")), ("single",))
        self.assert_double(read("a*<x:>?a*"))
        self.assertEqual(single(read("<x:a*>(b<y:a*>)?")), ("single",))
        self.assert_double(read("(<x:a>|a)(b|b)"))

    def test_text_beyond_the_longest(self):
        # Of 19 forms: the ways meet first at a text of 15 * 14 = 210 signs, more than LONG.
        pattern = ("any", (("some", 1, None, ("row", (("sign", "a"),) * 15)),
                           ("some", 1, None, ("row", (("sign", "a"),) * 14))))
        self.assertEqual(len(self.assert_double(pattern)), 210)

    def test_all_small_patterns(self):
        kinds = {"single": 0, "double": 0}
        for pattern in [p for forms in (1, 2, 3, 4) for p in small_patterns(forms, "x", "a")]:
            if is_sound(pattern):
                double = any(len(ways) > 1 for text in texts("a", 5) for ways in ways_by_row(pattern, text).values())
                kinds["double" if double else "single"] += 1
                if double:
                    self.assert_double(pattern)
                else:
                    self.assertEqual(single(pattern), ("single",), pattern)
        self.assertGreater(min(kinds.values()), 20)

    def test_chance_patterns(self):
        kinds = {"single": 0, "double": 0}
        for pattern in sound_patterns(70, 1200, depth=5, names="xy", signs="ab"):
            if count_forms(pattern) <= 14:
                before = frozen(pattern)
                told = single(pattern)
                kinds[told[0]] += 1
                self.assertEqual(frozen(pattern), before)
                self.assertEqual(single(pattern), told)
                if told != ("single",):
                    self.assert_double(pattern)
                    continue
                for text in texts("ab", 4):
                    if few_ways(pattern, text):
                        self.assertTrue(all(len(ways) == 1 for ways in ways_by_row(pattern, text).values()), pattern)
        self.assertGreater(min(kinds.values()), 100, kinds)


if __name__ == "__main__":
    unittest.main()
