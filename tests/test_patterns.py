"""[5] and [6]: what a pattern is, its names, and whether it is blank."""

import random
import unittest

from markpieces.errors import Unread
from markpieces.patterns import blank, names_of, shaped
from tests.helpers import (A, B, EMPTY, SIGNS, chance_patterns, count_depth, count_forms, frozen, goes_through,
                           nested, odd_things, small_patterns, variants)


def within_somes(depth, core=A):
    """So many forms within one another, core the innermost."""
    for _ in range(depth - 1):
        core = ("some", 0, 1, core)
    return core


def row_of_signs(forms):
    """A row that has so many forms in all."""
    return ("row", (A,) * (forms - 1))


def marks(*names):
    """A row of a mark for each name."""
    return ("row", tuple(("mark", name, A) for name in names))


class Shaped(unittest.TestCase):
    def assert_shaped(self, *things):
        for thing in things:
            self.assertIs(shaped(thing), True, thing)

    def assert_unshaped(self, *things):
        for thing in things:
            self.assertIs(shaped(thing), False, thing)

    def test_signs(self):
        self.assert_shaped(("sign", "a"), ("sign", " "), ("sign", "ab"), ("sign", " z"), ("sign", SIGNS))
        self.assert_unshaped(("sign", ""), ("sign", "ba"), ("sign", "aa"), ("sign", "aab"), ("sign", "a "))
        self.assert_unshaped(("sign", "A"), ("sign", "a~"), ("sign", "1"), ("sign", "\u00e9"), ("sign", "-a"))
        self.assert_unshaped(("sign",), ("sign", "a", "b"), ("sign", ("a",)), ("sign", ["a"]), ("sign", None))
        self.assert_unshaped(["sign", "a"], ("sign", 0), ("sign", True), ("Sign", "a"), ("", "a"), (None, "a"))

    def test_rows(self):
        self.assert_shaped(EMPTY, ("row", (A, B)), ("row", (A, A, A)), ("row", (A, ("any", (A, B)))))
        self.assert_shaped(("row", (A, ("some", 0, 1, ("row", (A, B))))), ("any", (EMPTY, ("row", (A, B)))))
        self.assert_unshaped(("row", (A,)), ("row", (EMPTY, A)), ("row", (A, ("row", (A, B)))), ("row", A))
        self.assert_unshaped(("row", [A, B]), ("row", []), ["row", (A, B)], ("row",), ("row", A, B), ("row", (), ()))
        self.assert_unshaped(("row", (A, None)), ("row", (A, "b")), ("row", (A, ["sign", "b"])), ("row", None))
        self.assert_unshaped(("row", "ab"), ("row", ""), ("row", (EMPTY,)), ("row", (EMPTY, EMPTY)))

    def test_anys(self):
        self.assert_shaped(("any", (A, B)), ("any", (A, A)), ("any", (EMPTY, EMPTY)), ("any", (A, B, EMPTY)))
        self.assert_shaped(("any", (A, ("row", (("any", (A, B)), A)))), ("any", (A, ("mark", "x", ("any", (A, B))))))
        self.assert_unshaped(("any", ()), ("any", (A,)), ("any", (A, ("any", (A, B)))), ("any", [A, B]), ("any",))
        self.assert_unshaped(("any", (A, 1)), ("any", (A, ())), ("any", A), ("any", (A, B), A), ["any", (A, B)])

    def test_somes(self):
        self.assert_shaped(("some", 0, 1, A), ("some", 0, None, A), ("some", 1, None, A))
        self.assert_shaped(("some", 0, None, EMPTY), ("some", 1, None, ("some", 0, None, A)))
        self.assert_unshaped(("some", 1, 1, A), ("some", 0, 0, A), ("some", 1, 0, A), ("some", 0, 2, A))
        self.assert_unshaped(("some", None, 1, A), ("some", None, None, A), ("some", 2, None, A), ("some", -1, 1, A))
        self.assert_unshaped(("some", False, 1, A), ("some", 0, True, A), ("some", False, True, A))
        self.assert_unshaped(("some", False, None, A), ("some", True, None, A), ("some", "0", "1", A))
        self.assert_unshaped(("some", 0, 1), ("some", 0, 1, A, A), ("some", (0, 1), A), ("some", 0, 1, (A,)))
        self.assert_unshaped(("some", 0, (), A), ("some", 0, False, A), ("some", 0, 1, None), ["some", 0, 1, A])

    def test_marks(self):
        self.assert_shaped(("mark", "a", A), ("mark", "abcdefgh", EMPTY), ("mark", "x", ("mark", "x", A)))
        self.assert_unshaped(("mark", "", A), ("mark", "abcdefghi", A), ("mark", "A", A), ("mark", "a b", A))
        self.assert_unshaped(("mark", "a"), ("mark", "a", A, A), ("mark", None, A), ("mark", ("a",), A))
        self.assert_unshaped(("mark", ["a"], A), ("mark", "a", ()), ("mark", "a", "b"), ["mark", "a", A])

    def test_sixty_forms(self):
        self.assert_shaped(row_of_signs(60), ("some", 0, 1, row_of_signs(59)), ("any", (row_of_signs(58), A)))
        self.assert_unshaped(row_of_signs(61), ("some", 0, 1, row_of_signs(60)), ("any", (row_of_signs(59), A)))
        self.assert_unshaped(("any", (row_of_signs(30), row_of_signs(30))), row_of_signs(1500))
        self.assert_shaped(("any", (row_of_signs(30), row_of_signs(29))))

    def test_twelve_within_one_another(self):
        self.assert_shaped(within_somes(12), ("any", (A, within_somes(11))), within_somes(12, EMPTY))
        self.assert_unshaped(within_somes(13), ("any", (A, within_somes(12))), within_somes(13, EMPTY))
        self.assert_unshaped(("row", (within_somes(12), A)), ("mark", "x", within_somes(12)), within_somes(900))

    def test_four_names(self):
        self.assert_shaped(marks("a", "b", "c", "d"), marks("d", "c", "b", "a", "a", "d"), marks("ab", "ba"))
        self.assert_unshaped(marks("a", "b", "c", "d", "e"), marks("a", "a", "b", "b", "c", "d", "e"))
        within = ("mark", "e", marks("a", "b", "c", "d"))
        self.assert_unshaped(within)

    def test_parts_shared_many_times_over_are_soon_done(self):
        thing = A
        for k in range(200):
            thing = (("row", "any")[k % 2], (thing, thing))
        self.assert_unshaped(thing)

    def test_odd_things_are_no_patterns_and_stay(self):
        for thing in [*odd_things(), nested(900), nested(900, []), ("sign", "a") * 1000, Unread(1), b"sign"]:
            if thing != EMPTY:
                before = len(thing) if isinstance(thing, (tuple, list)) else None
                self.assert_unshaped(thing)
                self.assertEqual(before, len(thing) if isinstance(thing, (tuple, list)) else None)
        for odd in odd_things():
            self.assert_unshaped(("row", (A, odd)), ("any", (odd, A)), ("mark", "x", odd), ("some", 0, 1, odd))

    def test_all_small_ones_and_what_is_changed_in_them(self):
        numbers = random.Random(5)
        for pattern in [p for forms in (1, 2, 3, 4) for p in small_patterns(forms)]:
            self.assert_shaped(pattern)
            for thing in variants(pattern, numbers)[:6]:
                before = frozen(thing)
                told = shaped(thing)
                self.assertIs(told, plainly_shaped(thing), thing)
                self.assertIs(shaped(thing), told)
                self.assertEqual(frozen(thing), before)

    def test_chance_ones_and_what_is_changed_in_them(self):
        numbers = random.Random(6)
        for pattern in chance_patterns(7, 300, depth=6, names=("a", "b", "c", "de", "f")):
            self.assertIs(shaped(pattern), plainly_shaped(pattern), pattern)
            for thing in variants(pattern, numbers):
                self.assertIs(shaped(thing), plainly_shaped(thing), thing)


def plainly_shaped(thing):
    """[5] word for word, another way than the program does it."""
    return is_form(thing) and count_forms(thing) <= 60 and count_depth(thing) <= 12 and len(marked(thing)) <= 4


def is_form(thing):
    if type(thing) is not tuple or not thing or type(thing[0]) is not str:
        return False
    kind, told = thing[0], thing[1:]
    if kind == "sign" and len(told) == 1 and type(told[0]) is str:
        return told[0] != "" and told[0] == "".join(sorted(set(told[0]) & set(SIGNS)))
    if kind in ("row", "any") and len(told) == 1 and type(told[0]) is tuple:
        if not all(is_form(part) and part[0] != kind for part in told[0]):
            return False
        return len(told[0]) > 1 or (kind == "row" and told[0] == ())
    if kind == "some" and len(told) == 3:
        return repr(told[:2]) in ("(0, 1)", "(0, None)", "(1, None)") and is_form(told[2])
    if kind == "mark" and len(told) == 2 and type(told[0]) is str:
        letters = set(told[0]) <= set(SIGNS) - {" "}
        return letters and 0 < len(told[0]) < 9 and is_form(told[1])
    return False


def marked(pattern):
    names = {pattern[1]} if pattern[0] == "mark" else set()
    parts = pattern[-1] if pattern[0] in ("row", "any") else [p for p in pattern[-1:] if type(p) is tuple]
    return names.union(*[marked(part) for part in parts])


class NamesAndBlank(unittest.TestCase):
    def test_names_rise_and_stand_once(self):
        self.assertEqual(names_of(marks("b", "a", "b", "ab")), ("a", "ab", "b"))
        self.assertEqual(names_of(("mark", "z", ("mark", "a", ("some", 0, 1, ("mark", "m", A))))), ("a", "m", "z"))
        self.assertEqual(names_of(("any", (("mark", "q", A), ("mark", "p", EMPTY), A))), ("p", "q"))
        self.assertEqual(names_of(A), ())
        self.assertEqual(names_of(EMPTY), ())

    def test_names_of_chance_patterns(self):
        for pattern in chance_patterns(8, 300, depth=6):
            self.assertEqual(names_of(pattern), tuple(sorted(marked(pattern))))
            self.assertEqual(names_of(pattern), names_of(pattern))

    def test_blank_of_each_form(self):
        for pattern in (EMPTY, ("any", (A, EMPTY)), ("any", (EMPTY, A)), ("some", 0, 1, A), ("some", 0, None, A),
                        ("some", 1, None, EMPTY), ("mark", "x", EMPTY), ("row", (("some", 0, 1, A),) * 2)):
            self.assertIs(blank(pattern), True, pattern)
        for pattern in (A, ("row", (A, ("some", 0, 1, A))), ("any", (A, B)), ("some", 1, None, A), ("mark", "x", A),
                        ("row", (("some", 0, 1, A), A))):
            self.assertIs(blank(pattern), False, pattern)

    def test_blank_of_many(self):
        small = [p for forms in (1, 2, 3, 4) for p in small_patterns(forms)]
        for pattern in small + chance_patterns(9, 300, depth=6):
            self.assertIs(blank(pattern), goes_through(pattern, ""), pattern)

    def test_somewhat_beyond_the_bounds_is_answered_too(self):
        self.assertEqual(names_of(("some", 0, None, within_somes(20, marks(*"abcdefg")))), tuple("abcdefg"))
        self.assertIs(blank(row_of_signs(100)), False)


if __name__ == "__main__":
    unittest.main()
