"""[15]: the rows of all whole ways, and the ways to a row."""

import random
import unittest

from markpieces.plain import MOST, rows_of, ways_to
from markpieces.read import read
from markpieces.ways import row_of, way_holds
from tests.helpers import (EMPTY, few_ways, frozen, is_sound, names_within, pieces, small_patterns, sound_patterns,
                           texts, told, ways_by_row, ways_to_ends)


def all_small():
    """All sound patterns of few forms."""
    found = [p for forms in (1, 2, 3, 4) for p in small_patterns(forms, "xy", "a")]
    return [p for p in found if is_sound(p)]


class Rows(unittest.TestCase):
    def assert_rows(self, text, through, rows):
        pattern = read(text)
        self.assertEqual(repr(rows_of(pattern, through)), repr(rows))

    def test_ordinary_ones(self):
        self.assert_rows("<x:a+><y:b*>", "aab", (((0, 2), (2, 3)),))
        self.assert_rows(".*<x:a+>.*", "aba", (((0, 1),), ((2, 3),)))
        self.assert_rows("<y:.><x:.>", "ab", (((1, 2), (0, 1)),))
        self.assert_rows("<x:a>b", "ba", ())

    def test_the_told_order(self):
        self.assert_rows("<x:a*>a*", "aa", (((0, 1),), ((0, 2),), ((0, 0),)))
        self.assert_rows("a*<x:a*>a*", "a", (((0, 1),), ((0, 0),), ((1, 1),)))
        self.assert_rows("(<x:a>|<y:a>|a)b", "ab", (((0, 1), None), (None, (0, 1)), (None, None)))
        self.assert_rows("a?<x:>a?<y:>a?", "a", (((0, 0), (1, 1)), ((0, 0), (0, 0)), ((1, 1), (1, 1))))

    def test_the_empty_text(self):
        self.assert_rows("", "", ((),))
        self.assert_rows("a", "", ())
        self.assert_rows("a*", "", ((),))
        self.assert_rows("<x:>", "", (((0, 0),),))
        self.assert_rows("<x:a>?<y:b*>", "", ((None, (0, 0)),))
        self.assert_rows("<x:>|<y:>|", "", (((0, 0), None), (None, (0, 0)), (None, None)))

    def test_without_names_there_is_at_most_the_empty_row(self):
        self.assert_rows("(a|b)*", "abba", ((),))
        self.assert_rows("(a|b)*", "abca", ())
        self.assert_rows("(a|a|aa)+", "a" * 150, ((),))

    def test_none_and_empty_pieces(self):
        self.assert_rows("<x:a>?<y:b?>c", "c", ((None, (0, 0)),))
        self.assert_rows("(<x:a>|a)(<y:>|)", "a", (((0, 1), None), ((0, 1), (1, 1)), (None, (1, 1)), (None, None)))

    def test_blanks_and_all_signs(self):
        self.assert_rows("<x:[^ ]+> <y:.*>", "ab c d", (((0, 2), (3, 6)),))

    def test_far_more_ways_than_rows(self):
        self.assert_rows("(a|a)*<x:b>(a|a|aa)*", "a" * 99 + "b" + "a" * 100, (((99, 100),),))
        self.assert_rows("<x:(a|aa|a*b?a)*>c", "a" * 199 + "c", (((0, 199),),))
        deep = "(" * 9 + "a+" + ")+" * 9
        self.assert_rows(deep + "<x:b>?", "a" * 150, ((None,),))
        self.assert_rows("(||)" * 14 + "<x:a*>", "a" * 100, (((0, 100),),))

    def test_beginnings_that_come_to_nothing(self):
        self.assert_rows("<w:.*><x:.*><y:.*><z:.*>b", "a" * 200, ())
        self.assert_rows("(<w:a*><x:a*><y:a*><z:a*>b|<x:a*>)", "a" * 120, ((None, (0, 120), None, None),))
        self.assert_rows("<w:.*>b<x:.*>b<y:.*>b<z:.*>", "a" * 60 + "b" + "a" * 60 + "b" + "a" * 60, ())

    def test_many_rows_and_each_once(self):
        found = rows_of(read(".*<x:.+>.*"), "ab" * 30)
        self.assertEqual(len(found), 60 * 61 // 2)
        self.assertEqual(found, told(found, ("x",)))
        found = rows_of(read("<w:.*><x:.*><y:.*><z:.*>"), "a" * 20)
        self.assertEqual(len(found), 23 * 22 * 21 // 6)
        self.assertEqual(found, told(found, ("w", "x", "y", "z")))

    def test_sixty_forms(self):
        pattern = read("<x:" + "a?" * 28 + ">" + "b")
        self.assertEqual(rows_of(pattern, "a" * 20 + "b"), (((0, 20),),))
        pattern = read("(" * 7 + "<x:a?b?>|c" + ")?" * 7)
        self.assertEqual(rows_of(pattern, "ab"), (((0, 2),),))
        self.assertEqual(rows_of(pattern, ""), (((0, 0),), (None,)))

    def test_all_small_patterns(self):
        for pattern in all_small():
            names = sorted(set(names_within(pattern)))
            for text in texts("a", 4):
                self.assertEqual(rows_of(pattern, text), told(ways_by_row(pattern, text), names), (pattern, text))

    def test_chance_patterns(self):
        numbers = random.Random(50)
        rows = 0
        for pattern in sound_patterns(51, 500, depth=5, names="wxyz", signs="ab"):
            names = sorted(set(names_within(pattern)))
            for text in numbers.sample(texts("ab", 5), 6):
                if few_ways(pattern, text):
                    before = frozen(pattern)
                    found = rows_of(pattern, text)
                    self.assertEqual(found, told(ways_by_row(pattern, text), names), (pattern, text))
                    self.assertEqual(repr(rows_of(pattern, text)), repr(found))
                    self.assertEqual(frozen(pattern), before)
                    rows += len(found)
        self.assertGreater(rows, 300)


class Ways(unittest.TestCase):
    def assert_ways(self, pattern, text, row, ways, most):
        """The ways told are unlike, of the row, and as many as there are, at most most."""
        self.assertIsInstance(ways, tuple)
        self.assertEqual(len(set(map(repr, ways))), len(ways))
        for way in ways:
            self.assertIs(way_holds(pattern, text, way), True, way)
            self.assertEqual(row_of(pattern, way), row)
        self.assertLessEqual(len(ways), most)

    def test_most(self):
        self.assertEqual(MOST, 2)
        pattern, text = read("(a|a)*<x:b>"), "a" * 10 + "b"
        row = ((10, 11),)
        self.assertEqual(len(ways_to(pattern, text, row)), 2)
        for most in (1, 2, 3, 99, 100):
            ways = ways_to(pattern, text, row, most=most)
            self.assertEqual(len(ways), most)
            self.assert_ways(pattern, text, row, ways, most)

    def test_fewer_than_most(self):
        self.assertEqual(ways_to(read("<x:a>b*"), "abb", ((0, 1),), most=100), ((0, (1, 2)),))
        found = ways_to(read("<x:a|a>"), "a", ((0, 1),), most=100)
        self.assertEqual(sorted(found), [(0, 0), (1, 0)])
        self.assertEqual(ways_to(read(""), "", (), most=100), ((),))

    def test_the_row_of_none(self):
        pattern = read("<x:a*>(<y:b>|b)?")
        for row in (((0, 1), None), (None, None), ((0, 2), (1, 2)), ((0, 2), (2, 2)), ((1, 2), None), (None, (2, 3)),
                    ((0, 3), None)):
            self.assertEqual(ways_to(pattern, "aab", row), (), row)
        self.assertEqual(ways_to(pattern, "aab", ((0, 2), (2, 3))), (((0, 1), ((0, 2),)),))
        self.assertEqual(ways_to(pattern, "aab", ((0, 2), None)), (((0, 1), ((1, 2),)),))
        self.assertEqual(ways_to(read("a"), "b", ()), ())
        self.assertEqual(ways_to(read("a"), "", ()), ())
        self.assertEqual(ways_to(read("<x:>"), "", (None,)), ())

    def test_just_the_marks_of_the_row_at_each_place(self):
        pattern = read("a*(<x:>|)a*")
        for place in range(4):
            way = (tuple(range(place)), (0, ()), tuple(range(place, 3)))
            self.assertEqual(ways_to(pattern, "aaa", ((place, place),), most=100), (way,))
        self.assertEqual(len(ways_to(pattern, "aaa", (None,), most=100)), 4)

    def test_a_piece_beyond_the_text_is_the_row_of_none(self):
        self.assertEqual(ways_to(read("<x:a>|a"), "a", ((0, 2),)), ())
        self.assertEqual(ways_to(read("<x:a>|a"), "a", ((2, 2),)), ())

    def test_very_many_ways(self):
        cases = (("(a|a)*<x:b>(a|a|aa)*", "a" * 99 + "b" + "a" * 100, ((99, 100),)),
                 ("(" * 9 + "a+" + ")+" * 9, "a" * 200, ()),
                 ("(||)" * 14 + "<x:a*>", "a" * 100, ((0, 100),)),
                 ("<x:a*>" + "(||)" * 14, "a" * 100, ((0, 100),)),
                 ("(a+|a|aa*)*<x:a?>", "a" * 120, ((120, 120),)))
        for text, through, row in cases:
            pattern = read(text)
            ways = ways_to(pattern, through, row, most=100)
            self.assertEqual(len(ways), 100)
            self.assert_ways(pattern, through, row, ways, 100)

    def test_dead_ends_are_not_gone_through(self):
        pattern = read("(a|a)*b|(a|a|a)*<x:>|(aa|a)*c")
        ways = ways_to(pattern, "a" * 150 + "c", (None,), most=5)
        self.assertEqual(len(ways), 5)
        self.assert_ways(pattern, "a" * 150 + "c", (None,), ways, 5)
        self.assertEqual(ways_to(read("(a|a)*(|)(|)(|)b"), "a" * 200, (), most=100), ())

    def test_all_small_patterns(self):
        for pattern in all_small():
            names = sorted(set(names_within(pattern)))
            for text in texts("a", 2):
                by_row = ways_by_row(pattern, text)
                rows = [()] if not names else [(one,) for one in pieces(len(text))]
                if len(names) == 2:
                    rows = [(one, other) for one in pieces(len(text)) for other in pieces(len(text))]
                for row in rows:
                    ways = ways_to(pattern, text, row, most=100)
                    self.assertEqual(sorted(map(repr, ways)), sorted(map(repr, by_row.get(row, []))), (pattern, row))

    def test_chance_patterns(self):
        numbers = random.Random(60)
        for pattern in sound_patterns(61, 400, depth=5, names="wxyz", signs="ab"):
            for text in numbers.sample(texts("ab", 5), 5):
                if few_ways(pattern, text):
                    for row, all_of_it in list(ways_by_row(pattern, text).items())[:6]:
                        for most in (1, 2, 7, 100):
                            ways = ways_to(pattern, text, row, most=most)
                            self.assert_ways(pattern, text, row, ways, most)
                            self.assertEqual(len(ways), min(most, len(all_of_it)))

    def test_how_many_there_are_without_names(self):
        numbers = random.Random(62)
        for text in ("(a|b)*a?(b|ab)*", "(aa|a|b)*", "((a|b)+|ab?)*", "(a?b|a)*(|b)"):
            pattern = read(text)
            for _ in range(20):
                through = "".join(numbers.choice("ab") for _ in range(numbers.randint(0, 12)))
                many = ways_to_ends(pattern, through, 0, {}).get(len(through), 0)
                ways = ways_to(pattern, through, (), most=100)
                self.assertEqual(len(ways), min(100, many))
                self.assert_ways(pattern, through, (), ways, 100)

    def test_the_same_question_again(self):
        pattern, text, row = read("<x:(a|a)*>b?"), "aaa", ((0, 3),)
        first = ways_to(pattern, text, row, most=9)
        rows_of(pattern, "aab")
        ways_to(pattern, "aab", ((0, 2),))
        self.assertEqual(ways_to(pattern, text, row, most=9), first)

    def test_the_empty_row_of_ways(self):
        self.assertEqual(ways_to(EMPTY, "", ()), ((),))
        self.assertEqual(ways_to(EMPTY, "a", ()), ())


if __name__ == "__main__":
    unittest.main()
