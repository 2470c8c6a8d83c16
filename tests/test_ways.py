"""[10], [11] and [13]: ways, their pieces, their rows."""

import random
import unittest

from markpieces.errors import Unread
from markpieces.judge import judged
from markpieces.patterns import names_of
from markpieces.ways import pieces_of, row_of, way_end, way_holds
from tests.helpers import (A, B, EMPTY, SIGNS, all_ways, chance_patterns, frozen, is_idle, odd_things, small_patterns,
                           texts, variants, whole_ways)

OR = ("any", (A, B))


def mark(name, part):
    return ("mark", name, part)


class Ends(unittest.TestCase):
    def assert_end(self, pattern, text, way, at, end):
        self.assertEqual(repr(way_end(pattern, text, way, at)), repr(end), (pattern, text, way, at))

    def test_signs(self):
        self.assert_end(A, "a", 0, 0, 1)
        self.assert_end(A, "ba", 1, 1, 2)
        self.assert_end(A, "ba", 0, 0, None)
        self.assert_end(A, "aa", 1, 0, None)
        self.assert_end(A, "aa", 0, 1, None)
        self.assert_end(A, "", 0, 0, None)
        self.assert_end(A, "a", 1, 1, None)
        self.assert_end(A, "a", -1, 0, None)
        self.assert_end(A, "a", -1, 1, None)
        self.assert_end(("sign", " z"), "z ", 1, 1, 2)
        self.assert_end(("sign", SIGNS), " ", 0, 0, 1)
        for place, one in enumerate(SIGNS):
            self.assert_end(("sign", SIGNS), SIGNS, place, place, place + 1)
            self.assert_end(("sign", one), SIGNS, place, place, place + 1)
        self.assert_end(A, "a" * 200, 199, 199, 200)
        self.assert_end(A, "a" * 200, 200, 200, None)

    def test_true_and_false_are_no_places(self):
        self.assert_end(A, "aa", False, 0, None)
        self.assert_end(A, "aa", True, 1, None)
        self.assert_end(OR, "a", (False, 0), 0, None)
        self.assert_end(OR, "b", (True, 0), 0, None)
        self.assert_end(("some", 0, None, A), "aa", (False, True), 0, None)

    def test_rows(self):
        pair = ("row", (A, B))
        self.assert_end(pair, "ab", (0, 1), 0, 2)
        self.assert_end(pair, "aab", (1, 2), 1, 3)
        self.assert_end(EMPTY, "", (), 0, 0)
        self.assert_end(EMPTY, "ab", (), 2, 2)
        for way in ([0, 1], (0,), (0, 1, 2), (), (1, 0), (0, 0), None, 0, (None, 1), (0, None), "ab", (0, (1,))):
            self.assert_end(pair, "ab", way, 0, None)
        for way in ([], None, 0, False, "", ((),), (0,)):
            self.assert_end(EMPTY, "", way, 0, None)

    def test_anys(self):
        self.assert_end(OR, "b", (1, 0), 0, 1)
        self.assert_end(OR, "ab", (1, 1), 1, 2)
        self.assert_end(("any", (EMPTY, A)), "", (0, ()), 0, 0)
        for way in ([1, 0], (1,), (1, 0, 0), (0, 0), (2, 0), (-1, 0), (10 ** 39, 0), (-(10 ** 39), 0), ("1", 0),
                    (None, 0), ((), 0), (1, None), (1, (0,)), 1, None, (), "ab"):
            self.assert_end(OR, "b", way, 0, None)

    def test_somes(self):
        self.assert_end(("some", 0, 1, A), "aa", (), 0, 0)
        self.assert_end(("some", 0, 1, A), "aa", (0,), 0, 1)
        self.assert_end(("some", 0, 1, A), "aa", (0, 1), 0, None)
        self.assert_end(("some", 0, None, A), "aaa", (), 3, 3)
        self.assert_end(("some", 0, None, A), "aaa", (0, 1, 2), 0, 3)
        self.assert_end(("some", 1, None, A), "aaa", (), 0, None)
        self.assert_end(("some", 1, None, A), "aaa", (1,), 1, 2)
        self.assert_end(("some", 1, None, A), "aaa", (1, 2), 1, 3)
        self.assert_end(("some", 1, None, A), "aaa", (0, 2), 0, None)
        self.assert_end(("some", 0, None, A), "aaa", [0, 1], 0, None)
        self.assert_end(("some", 0, None, A), "a" * 200, tuple(range(200)), 0, 200)
        self.assert_end(("some", 0, None, A), "a" * 200, tuple(range(201)), 0, None)

    def test_somes_of_somes_and_idle_ones(self):
        twofold = ("some", 0, None, ("some", 1, None, A))
        self.assert_end(twofold, "aaa", ((0, 1), (2,)), 0, 3)
        self.assert_end(twofold, "aaa", ((0, 1), ()), 0, None)
        idle = ("some", 0, None, ("some", 0, None, A))
        self.assert_end(idle, "aaa", ((), (0, 1), (), ()), 0, 2)
        self.assert_end(("some", 1, None, EMPTY), "", ((),) * 500, 0, 0)
        self.assert_end(("some", 1, None, EMPTY), "", ((),) * 500 + ([],), 0, None)
        self.assert_end(("some", 0, 1, OR), "b", ((1, 0),), 0, 1)
        self.assert_end(("row", (A, OR)), "ab", (0, (1, 1)), 0, 2)

    def test_marks_have_the_way_of_their_part(self):
        self.assert_end(mark("x", A), "a", 0, 0, 1)
        self.assert_end(mark("x", A), "a", (0,), 0, None)
        self.assert_end(mark("x", mark("y", ("row", (A, B)))), "ab", (0, 1), 0, 2)
        self.assert_end(mark("x", EMPTY), "ab", (), 2, 2)

    def test_whole_ways(self):
        self.assertIs(way_holds(A, "a", 0), True)
        self.assertIs(way_holds(A, "aa", 0), False)
        self.assertIs(way_holds(A, "aa", 1), False)
        self.assertIs(way_holds(EMPTY, "", ()), True)
        self.assertIs(way_holds(EMPTY, "a", ()), False)
        self.assertIs(way_holds(("some", 0, None, A), "", ()), True)
        self.assertIs(way_holds(A, "", None), False)

    def test_deep_and_large_patterns(self):
        deep, way = A, 0
        for _ in range(11):
            deep, way = ("some", 0, 1, deep), (way,)
        self.assertIs(way_holds(deep, "a", way), True)
        self.assertIs(way_holds(deep, "a", (way,)), False)
        self.assertIs(way_holds(deep, "a", way[0]), False)
        large = ("row", (A,) * 59)
        self.assertIs(way_holds(large, "a" * 59, tuple(range(59))), True)
        self.assertIs(way_holds(large, "a" * 59, tuple(range(58))), False)
        self.assertIs(way_holds(large, "a" * 60, tuple(range(60))), False)

    def test_odd_things_are_no_ways(self):
        patterns = [A, EMPTY, OR, ("row", (A, B)), ("some", 0, 1, A), ("some", 1, None, A), mark("x", A)]
        for pattern in patterns:
            for text in ("", "ab"):
                told = [repr(way) for way, end, pieces in all_ways(pattern, text, 0)]
                for thing in [*odd_things(), Unread(0), b"a"]:
                    before = frozen(thing)
                    end = way_end(pattern, text, thing, 0)
                    self.assertEqual(end is not None, repr(thing) in told, (pattern, thing))
                    self.assertIs(way_holds(pattern, text, thing), end == len(text))
                    self.assertEqual(frozen(thing), before)


class AgainstAllWays(unittest.TestCase):
    """Small patterns, and chance ones, against going through all ways one by one."""

    def patterns(self):
        small = [p for forms in (1, 2, 3, 4) for p in small_patterns(forms, "xy", "ab")]
        small = random.Random(3).sample(small, 250)
        return [p for p in small + chance_patterns(31, 150, depth=5) if not is_idle(p)]

    def test_every_way_is_one_and_what_is_changed_in_it_is_another_or_none(self):
        numbers = random.Random(4)
        for pattern in self.patterns():
            for text in numbers.sample(texts("ab ", 3), 8):
                at = numbers.randint(0, len(text))
                found = all_ways(pattern, text, at)[:40]
                told = {repr(way): end for way, end, pieces in all_ways(pattern, text, at)}
                for way, end, pieces in found:
                    self.assertEqual(way_end(pattern, text, way, at), end)
                    self.assertEqual(pieces_of(pattern, way, at), pieces)
                    for thing in variants(way, numbers)[:5]:
                        before = frozen(thing)
                        self.assertEqual(way_end(pattern, text, thing, at), told.get(repr(thing)))
                        self.assertEqual(frozen(thing), before)

    def test_whole_ways_and_their_rows(self):
        for pattern in self.patterns():
            sound = judged(pattern) == ("sound",)
            for text in texts("ab", 3):
                for way, pieces in whole_ways(pattern, text)[:30]:
                    self.assertIs(way_holds(pattern, text, way), True)
                    if sound:
                        marked = {name: (begin, end) for name, begin, end in pieces}
                        row = tuple(marked.get(name) for name in names_of(pattern))
                        self.assertEqual(row_of(pattern, way), row)


class Pieces(unittest.TestCase):
    def test_of_each_form(self):
        self.assertEqual(pieces_of(A, 3, 3), ())
        self.assertEqual(pieces_of(EMPTY, (), 0), ())
        self.assertEqual(pieces_of(mark("x", A), 3, 3), (("x", 3, 4),))
        self.assertEqual(pieces_of(mark("x", EMPTY), (), 5), (("x", 5, 5),))
        self.assertEqual(pieces_of(("any", (mark("x", A), mark("y", A))), (1, 0), 0), (("y", 0, 1),))
        self.assertEqual(pieces_of(("some", 0, 1, mark("x", A)), (), 2), ())

    def test_the_inner_one_first_and_by_ends(self):
        both = mark("a", ("row", (mark("b", A), mark("c", EMPTY), A)))
        self.assertEqual(pieces_of(both, (4, (), 5), 4), (("b", 4, 5), ("c", 5, 5), ("a", 4, 6)))
        self.assertEqual(pieces_of(mark("x", mark("y", mark("x", A))), 0, 0), (("x", 0, 1), ("y", 0, 1), ("x", 0, 1)))
        empties = ("row", (mark("z", EMPTY), mark("y", EMPTY)))
        self.assertEqual(pieces_of(empties, ((), ()), 1), (("z", 1, 1), ("y", 1, 1)))

    def test_as_often_as_the_way_goes_through_a_mark(self):
        often = ("some", 0, None, mark("x", ("some", 0, None, A)))
        self.assertEqual(pieces_of(often, ((0, 1), (), (2,)), 0), (("x", 0, 2), ("x", 2, 2), ("x", 2, 3)))

    def test_rows(self):
        pattern = ("row", (mark("b", A), ("some", 0, 1, mark("a", B)), mark("c", EMPTY)))
        self.assertEqual(row_of(pattern, (0, (1,), ())), ((1, 2), (0, 1), (2, 2)))
        self.assertEqual(row_of(pattern, (0, (), ())), (None, (0, 1), (1, 1)))
        self.assertEqual(row_of(A, 0), ())
        self.assertEqual(row_of(EMPTY, ()), ())
        self.assertEqual(row_of(("any", (mark("x", A), A)), (1, 0)), (None,))


if __name__ == "__main__":
    unittest.main()
