"""[25]: the machine of a pattern."""

import random
import unittest

from markpieces.machines import is_machine
from markpieces.made import made
from markpieces.patterns import names_of
from markpieces.plain import rows_of
from markpieces.read import read
from markpieces.runs import bar_holds, run_holds, why
from tests.helpers import SIGNS, count_forms, few_ways, frozen, is_sound, names_within, small_patterns, sound_patterns
from tests.helpers import texts, ways_by_row
from tests.machinery import all_rows, told_rows


class Made(unittest.TestCase):
    def assert_made(self, pattern, through):
        """The machine is one, of the pattern's names, and tells just the rows for these texts."""
        before = frozen(pattern)
        machine = made(pattern)
        self.assertIs(is_machine(machine), True, pattern)
        self.assertEqual(machine[0], names_of(pattern))
        for text in through:
            self.assertEqual(told_rows(machine, text), set(rows_of(pattern, text)), (pattern, text))
        self.assertEqual(frozen(pattern), before)
        self.assertEqual(made(pattern), machine)
        return machine

    def test_ordinary(self):
        for text in ("", "a", "a*", "(a|b)*a", "<x:a*>", "<x:a*>b?<y:a*>", "(<x:a>|<y:b>|c)", "<x:a?>(<y:>|b)", "<x:>|<y:>|",
                     "a*<x:b*>a*", "<x:a<y:b*>a>", "(<x:a>)?(<y:a>)?a*", "<y:><x:a*>", "<x:<y:a?>?>b*", ".<x:[^a]*>.*",
                     "a?<x:>a?<y:>a?", "(a+b?)+", "<x:a+|b>|<x:ab>(<y:a>|)"):
            self.assert_made(read(text), texts("ab", 4) + ["c", " ", "az", "zz a"])

    def test_the_empty_text_and_names_begun_and_ended_at_one_place(self):
        self.assertEqual(told_rows(made(read("<x:><y:a*>")), ""), {((0, 0), (0, 0))})
        self.assertEqual(told_rows(made(read("<x:a?>")), ""), {((0, 0),)})
        self.assertEqual(told_rows(made(read("")), ""), {()})
        self.assertEqual(told_rows(made(read("a")), ""), set())

    def test_all_signs(self):
        machine = made(read("<x:.>"))
        for sign in SIGNS:
            self.assertEqual(told_rows(machine, sign), {((0, 1),)})

    def test_fourteen_forms_with_two_names(self):
        for text in ("(<x:a>|<y:b>|<x:<y:a>>|)(a|b)*", "<x:(a|b)*>(a|b)?<y:a+>b", "(<x:a?>|b)a?(<y:b?>|a)b",
                     "a*(<x:a*>|<y:b*>)[ab]?b+", "(a?<x:b?>a?b?<y:a>b)?", "<x:a|b|ab|>(|a|<y:b>)"):
            pattern = read(text)
            self.assertEqual(count_forms(pattern), 14, text)
            self.assert_made(pattern, texts("ab", 4))

    def test_twenty_four_forms_without_marks(self):
        for text in ("a?b?a?b?a?b?a?b?a?b?a?c", "(a|b|ab|ba|aab|bb|abc)*a?", "(((a*b)*c|a)*b?(ab?c+)*d+a)*", "a" * 23):
            pattern = read(text)
            self.assertEqual(count_forms(pattern), 24, text)
            self.assert_made(pattern, texts("abc", 4) + ["ab" * 5 + "c", "aabbabc", "a" * 23, "abcabdab" + "d"])

    def test_what_is_asked_fits_with_room(self):
        for pattern in sound_patterns(140, 1500, depth=6, names="xy", signs="ab"):
            if count_forms(pattern) <= 14 or count_forms(pattern) <= 24 and not names_within(pattern):
                self.assertIs(is_machine(made(pattern)), True, pattern)

    def test_long_texts(self):
        pattern = read("(a|a)*<x:b>(a|aa)*")
        machine = made(pattern)
        text = "a" * 120 + "b" + "a" * 79
        for row, word in ((((120, 121),), "run"), (((119, 121),), "bar"), ((None,), "bar"), (((0, 200),), "bar")):
            told = why(machine, text, row)
            self.assertEqual(told[0], word)
            self.assertIs(run_holds(machine, text, row, told[1]), word == "run")
            self.assertIs(bar_holds(machine, text, row, told[1]), word == "bar")

    def test_each_row_has_a_run_and_each_other_a_bar(self):
        numbers = random.Random(141)
        for pattern in sound_patterns(142, 60, depth=4, names="xy", signs="ab"):
            machine = made(pattern)
            for text in numbers.sample(texts("ab", 3), 3):
                rows = rows_of(pattern, text)
                for row in all_rows(machine[0], len(text)):
                    self.assertEqual(why(machine, text, row)[0], "run" if row in rows else "bar")

    def test_all_small_patterns(self):
        for pattern in [p for forms in (1, 2, 3, 4) for p in small_patterns(forms, "xy", "a")]:
            if is_sound(pattern):
                self.assert_made(pattern, texts("a", 3))

    def test_chance_patterns_against_all_ways(self):
        numbers = random.Random(143)
        for pattern in sound_patterns(144, 400, depth=5, names="xy", signs="ab"):
            if count_forms(pattern) <= 14:
                machine = self.assert_made(pattern, numbers.sample(texts("ab", 5), 4))
                for text in numbers.sample(texts("ab", 4), 3):
                    if few_ways(pattern, text):
                        self.assertEqual(told_rows(machine, text), set(ways_by_row(pattern, text)), (pattern, text))


if __name__ == "__main__":
    unittest.main()
