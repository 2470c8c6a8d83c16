"""[23], [24]: runs, bars, and why."""

import random
import unittest

from markpieces.errors import Unread
from markpieces.machines import is_machine
from markpieces.runs import bar_holds, run_holds, why
from markpieces.tables import Table
from tests.helpers import frozen, odd_things, texts, variants
from tests.machinery import all_rows, all_runs, chance_machine, is_bar, told_rows

X0, X1, BOTH = (("x", 0),), (("x", 1),), (("x", 0), ("x", 1))
# a*<x:b*>a*, with a step without marks from 0 to 3, which goes on likewise.
PLAIN = (("x",), ((0,), (1,), (2,), (0,)), (0,), (2,),
         ((0, (), 3), (0, X0, 1), (0, BOTH, 2), (1, X1, 2), (3, X0, 1)),
         ((0, "a", 0), (1, "b", 1), (2, "a", 2), (3, "a", 3)))


def whole(count, signs="a", *, ends=True):
    """A machine without names all of whose states lead to one another, by steps and by reads."""
    every = [(a, b) for a in range(count) for b in range(count)]
    return ((), ((),) * count, tuple(range(count)), tuple(range(count)) if ends else (),
            tuple((a, (), b) for a, b in every), tuple((a, signs, b) for a, b in every))


def things_like(thing, numbers):
    """The thing with parts changed, and odd things."""
    return variants(thing, numbers) + [list(thing), (thing,), thing[1:], (*thing, 0), (*thing, ())]


class Runs(unittest.TestCase):
    def test_a_run(self):
        self.assertIs(run_holds(PLAIN, "aba", ((1, 2),), (0, 0, 0, 1, 1, 2, 2, 2)), True)
        self.assertIs(run_holds(PLAIN, "aba", ((1, 2),), (0, 3, 3, 1, 1, 2, 2, 2)), True)
        self.assertIs(run_holds(PLAIN, "", ((0, 0),), (0, 2)), True)

    def test_no_runs(self):
        run = (0, 0, 0, 1, 1, 2, 2, 2)
        for text, row in (("abb", (1, 2)), ("aaa", (1, 2)), ("aba", (1, 3)), ("aba", (0, 2)), ("aba", (1, 1)), ("aba", None)):
            self.assertIs(run_holds(PLAIN, text, (row,), run), False, (text, row))
        for other in ((0, 0, 0, 0, 1, 2, 2, 2), (0, 0, 1, 1, 1, 2, 2, 2), (0, 0, 0, 1, 1, 2, 2), (*run, 2), run[::-1],
                      (3, 3, 3, 1, 1, 2, 2, 2), (0, 0, 0, 1, 1, 2, 2, 3), (), (0, 0, 0, True, True, 2, 2, 2),
                      (False, 0, 0, 1, 1, 2, 2, 2), list(run), (0, 0, 0, 1, 1, 2, 2, -2), (0, 0, 0, 1, 1, 2, 2, "2"),
                      (0, 0, 0, 1, 1, 2, 2, None), (0, 0, 0, 1, 1, 2, 2, 10 ** 39), (0, 0, 0, 1, 1, 2, 2, 4),
                      (0, 0, 0, 1, 1, 2, [2], 2), (0, 0, 0, 1, 1, 2, (2,), 2)):
            self.assertIs(run_holds(PLAIN, "aba", ((1, 2),), other), False, other)

    def test_staying_is_only_for_no_marks(self):
        self.assertIs(run_holds(PLAIN, "", ((0, 0),), (0, 0)), False)
        self.assertIs(run_holds(PLAIN, "", (None,), (2, 2)), False)
        # A state that is a start and an end: the row without pieces.
        machine = (("x",), ((0,), (2,)), (0,), (0, 1), ((0, BOTH, 1),), ())
        self.assertIs(run_holds(machine, "", (None,), (0, 0)), True)
        self.assertIs(run_holds(machine, "", ((0, 0),), (0, 0)), False)
        self.assertIs(run_holds(machine, "", ((0, 0),), (0, 1)), True)
        self.assertIs(run_holds(machine, "", (None,), (0, 1)), False)

    def test_no_starts_and_no_ends(self):
        for at in (2, 3):
            machine = (*PLAIN[:at], (), *PLAIN[at + 1:])
            self.assertIs(run_holds(machine, "", ((0, 0),), (0, 2)), False)
            self.assertEqual(why(machine, "", ((0, 0),))[0], "bar")

    def test_long_ones_over_machines_that_lead_from_everywhere_to_everywhere(self):
        machine = whole(77, "ab")
        numbers = random.Random(130)
        run = tuple(numbers.randrange(77) for _ in range(402))
        self.assertIs(run_holds(machine, "ab" * 100, (), run), True)
        self.assertIs(run_holds(machine, "ab" * 99 + "ac", (), run), False)
        self.assertIs(run_holds(machine, "ab" * 100, (), (*run[:-1], 77)), False)
        self.assertIs(run_holds(machine, "ab" * 100, (), (*run[:200], *run[201:])), False)

    def test_things_of_any_kind(self):
        for text, row in (("", (None,)), ("a", ((0, 1),)), ("aba", ((1, 2),))):
            runs = [repr(run) for run in all_runs(PLAIN, text, row)]
            for thing in [*odd_things(), Table([], []), Unread(0), PLAIN, b"a"]:
                before = frozen(thing)
                self.assertIs(run_holds(PLAIN, text, row, thing), repr(thing) in runs, thing)
                self.assertEqual(frozen(thing), before)

    def test_against_all_runs(self):
        numbers = random.Random(131)
        kinds = {True: 0, False: 0}
        for _ in range(120):
            machine = chance_machine(numbers, ("x", "y")[:numbers.randint(0, 2)], most=5)
            for text in numbers.sample(texts("ab", 2), 3):
                rows = all_rows(machine[0], len(text))
                for row in numbers.sample(rows, min(4, len(rows))) + sorted(told_rows(machine, text), key=repr)[:4]:
                    runs = all_runs(machine, text, row)
                    known = {repr(run) for run in runs}
                    some = runs[:3] or [tuple(numbers.randrange(len(machine[1])) for _ in range(2 * len(text) + 2))]
                    for thing in some + things_like(some[0], numbers):
                        self.assertIs(run_holds(machine, text, row, thing), repr(thing) in known, (machine, text, row, thing))
                        kinds[repr(thing) in known] += 1
        self.assertGreater(min(kinds.values()), 300, kinds)


class Bars(unittest.TestCase):
    def test_a_bar(self):
        bar = ((0,), (1,), (), (), (), ())
        self.assertIs(bar_holds(PLAIN, "ab", ((0, 2),), bar), True)
        self.assertIs(bar_holds(PLAIN, "ab", ((0, 2),), ((0, 1, 2, 3), (1, 3), (3,), (0, 1), (0, 1), (0, 1, 3))), False)
        self.assertIs(bar_holds(PLAIN, "ab", ((0, 2),), ((0, 1, 2, 3), (1, 3), (3,), (0, 3), (0, 1), (0, 1, 3))), False)
        self.assertIs(bar_holds(PLAIN, "ab", ((0, 2),), ((0, 1, 2, 3), (1, 3), (3,), (0, 3), (0,), (0, 1, 3))), True)

    def test_what_is_none(self):
        bar = ((0,), (1,), (), (), (), ())
        for other in ((), bar[:5], (*bar, ()), ((), (1,), (), (), (), ()), ((0,), (), (), (), (), ()), list(bar),
                      ([0], (1,), (), (), (), ()), ((0, 0), (1,), (), (), (), ()), ((0,), (1, 0), (), (), (), ()),
                      ((0,), (1,), (), (), (), (2,)), ((False,), (1,), (), (), (), ()), ((0,), (True,), (), (), (), ()),
                      ((0,), (1, 4), (), (), (), ()), ((-1, 0), (1,), (), (), (), ()), ((0,), (1,), (), (), (), None),
                      ((0,), (1,), (), (), (), "")):
            self.assertIs(bar_holds(PLAIN, "ab", ((0, 2),), other), False, other)

    def test_staying_and_steps_without_marks_lead_on(self):
        # Of the empty row of "a": from 0 to 0 and 3, by staying and by the step.
        self.assertIs(bar_holds(PLAIN, "a", (None,), ((0,), (0, 3), (0, 3), (0, 3))), True)
        self.assertIs(bar_holds(PLAIN, "a", (None,), ((0,), (0,), (0, 3), (0, 3))), False)
        self.assertIs(bar_holds(PLAIN, "a", (None,), ((0,), (3,), (0, 3), (0, 3))), False)
        self.assertIs(bar_holds(PLAIN, "a", (None,), ((0,), (0, 3), (0,), (0, 3))), False)
        self.assertIs(bar_holds(PLAIN, "a", (None,), ((0,), (0, 3), (0, 3), (0,))), False)

    def test_more_states_than_need_be(self):
        machine = whole(60, ends=False)
        bar = (tuple(range(60)),) * 402
        self.assertIs(bar_holds(machine, "a" * 200, (), bar), True)
        self.assertIs(bar_holds(machine, "a" * 200, (), (*bar[:300], tuple(range(59)), *bar[301:])), False)
        self.assertIs(bar_holds(machine, "b" * 200, (), bar), True)
        self.assertIs(bar_holds(whole(60), "a" * 200, (), bar), False)

    def test_things_of_any_kind(self):
        for text, row in (("", (None,)), ("", ((0, 0),)), ("ab", ((0, 2),))):
            for thing in [*odd_things(), Table([], []), Unread(0), PLAIN, b"a", ((),) * 6, ((0,),) * 2]:
                before = frozen(thing)
                self.assertIs(bar_holds(PLAIN, text, row, thing), is_bar(PLAIN, text, row, thing), thing)
                self.assertEqual(frozen(thing), before)

    def test_against_the_words(self):
        numbers = random.Random(132)
        kinds = {True: 0, False: 0}
        for _ in range(100):
            machine = chance_machine(numbers, ("x", "y")[:numbers.randint(0, 2)], most=5)
            for text in numbers.sample(texts("ab", 2), 3):
                for row in numbers.sample(all_rows(machine[0], len(text)), 1) * 3:
                    count = len(machine[1])
                    bar = tuple(tuple(state for state in range(count) if numbers.random() < 0.9)
                                for _ in range(2 * len(text) + 2))
                    word, told = why(machine, text, row)
                    bar = told if word == "bar" else bar
                    for thing in [bar] + things_like(bar, numbers):
                        self.assertIs(bar_holds(machine, text, row, thing), is_bar(machine, text, row, thing), thing)
                        kinds[is_bar(machine, text, row, thing)] += 1
        self.assertGreater(min(kinds.values()), 300, kinds)


class Why(unittest.TestCase):
    def assert_why(self, machine, text, row):
        """Tells whether the row is told; what why says is let by, and nothing of the other kind is."""
        told = why(machine, text, row)
        self.assertIsInstance(told, tuple)
        self.assertEqual(len(told), 2)
        self.assertIn(told[0], ("run", "bar"))
        self.assertIs(run_holds(machine, text, row, told[1]), told[0] == "run")
        self.assertIs(bar_holds(machine, text, row, told[1]), told[0] == "bar")
        return told[0] == "run"

    def test_ordinary(self):
        self.assertEqual(why(PLAIN, "", ((0, 0),)), ("run", (0, 2)))
        self.assertTrue(self.assert_why(PLAIN, "aba", ((1, 2),)))
        self.assertFalse(self.assert_why(PLAIN, "aba", ((1, 3),)))
        self.assertFalse(self.assert_why(PLAIN, "aba", (None,)))

    def test_machines_without_names_starts_or_ends(self):
        for machine in (((), ((),), (), (), (), ()), ((), ((),), (0,), (), (), ()), ((), ((),), (), (0,), (), ())):
            self.assertIs(is_machine(machine), True)
            for text in ("", "a"):
                self.assertFalse(self.assert_why(machine, text, ()))
        self.assertTrue(self.assert_why(((), ((),), (0,), (0,), (), ()), "", ()))
        self.assertFalse(self.assert_why(((), ((),), (0,), (0,), (), ()), "a", ()))

    def test_large_ones(self):
        self.assertTrue(self.assert_why(whole(77), "a" * 200, ()))
        self.assertFalse(self.assert_why(whole(77, ends=False), "a" * 200, ()))
        self.assertFalse(self.assert_why(whole(77), "a" * 199 + "b", ()))
        chain = tuple((k, "abcdefghijklmnopqrstuvwxyz", k + 1) for k in range(399))
        machine = ((), ((),) * 400, (0, 199, 200), (399,), (), chain)
        self.assertTrue(self.assert_why(machine, "az" * 100, ()))
        self.assertFalse(self.assert_why(machine, "az" * 99, ()))
        self.assertFalse(self.assert_why(machine, "az" * 99 + "a ", ()))

    def test_just_the_rows_that_are_told(self):
        numbers = random.Random(133)
        kinds = {True: 0, False: 0}
        for _ in range(150):
            machine = chance_machine(numbers, ("x", "y")[:numbers.randint(0, 2)])
            before = frozen(machine)
            for text in numbers.sample(texts("ab", 3), 3):
                rows = told_rows(machine, text)
                every = all_rows(machine[0], len(text))
                for row in every if len(every) < 20 else numbers.sample(every, 10) + sorted(rows, key=repr)[:5]:
                    told = self.assert_why(machine, text, row)
                    self.assertEqual(told, row in rows, (machine, text, row))
                    kinds[told] += 1
            self.assertEqual(frozen(machine), before)
        self.assertGreater(min(kinds.values()), 300, kinds)

    def test_the_same_question_again(self):
        first = why(PLAIN, "aba", ((1, 2),))
        why(PLAIN, "ab", ((0, 2),))
        self.assertEqual(why(PLAIN, "aba", ((1, 2),)), first)


if __name__ == "__main__":
    unittest.main()
