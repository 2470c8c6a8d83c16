"""[29], and what [2] says of it: rows told one by one."""

import random
import unittest

from markpieces.deeds import choice, few, joint, rest
from markpieces.errors import Busy
from markpieces.made import made
from markpieces.meaning import meaning
from markpieces.plain import rows_of
from markpieces.read import read
from markpieces.runs import why
from markpieces.told import Told
from tests.helpers import frozen, plain_marks, sound_patterns, texts, told
from tests.machinery import chance_machine, told_rows

X0, X1, BOTH = (("x", 0),), (("x", 1),), (("x", 0), ("x", 1))


def beginnings(rows, names, length):
    """A set of all beginnings of 0 to length places of the rows."""
    found = set()
    for row in rows:
        marks = tuple(plain_marks(row, names, place) for place in range(length))
        found |= {marks[:many] for many in range(length + 1)}
    return found


def rows_left(teller):
    found = []
    while True:
        row = teller.more()
        if row is None:
            return found
        found.append(row)


def crowd(count, signs="a"):
    """A machine all of whose states of a stand lead to one another: very many runs to each row."""
    stands = ((0, 0),) * count + ((1, 0),) * count + ((2, 0),) * count + ((2, 1),) * count + ((2, 2),) * count
    marks = ((), (("x", 0),), (("x", 1),), (("y", 0),), (("y", 1),))
    steps = []
    for level in range(5):
        steps += [(level * count + a, (), level * count + b) for a in range(count) for b in range(count)]
        if level:
            steps += [((level - 1) * count + a, marks[level], level * count + b) for a in range(count) for b in range(count)]
    reads = [(level * count + a, signs, level * count + b) for level in range(5) for a in range(count) for b in range(count)]
    return (("x", "y"), stands, tuple(range(count)), tuple(range(4 * count, 5 * count)), tuple(sorted(steps)), tuple(reads))


class Rows(unittest.TestCase):
    def assert_told(self, machine, text, expected):
        """Just these rows, in order; opened, sofar and left behind each."""
        teller = Told(machine, text)
        self.assertEqual((teller.opened(), teller.sofar(), teller.left()), (0, 0, bool(expected)))
        for many, row in enumerate(expected, start=1):
            before = teller.opened()
            self.assertIs(teller.left(), True)
            self.assertEqual(frozen(teller.more()), frozen(row), (machine, text))
            if many < 30 or many == len(expected):
                self.assertEqual(teller.opened(), len(beginnings(expected[:many], machine[0], len(text))))
            self.assertLessEqual(teller.opened() - before, len(text) + 1)
            self.assertEqual(teller.sofar(), many)
        opened = teller.opened()
        for _ in range(3):
            self.assertIs(teller.left(), False)
            self.assertIs(teller.more(), None)
            self.assertEqual((teller.opened(), teller.sofar()), (opened, len(expected)))

    def test_of_patterns(self):
        for text in ("", "a*", "<x:a*>.*", ".*<x:b*>.*", "<x:a*><y:b*>", ".*<x:.>.*<y:.>.*", "<x:a>|<y:b>|.*", "<x:>|<y:>|",
                     "<x:.*<y:.*>.*>", "(a|a)*<x:b?>a*", "<y:><x:a*>"):
            pattern = read(text)
            for through in texts("ab", 4) + ["abba a", "aaaaaaaa"]:
                self.assert_told(made(pattern), through, rows_of(pattern, through))

    def test_machines_without_starts_ends_or_names(self):
        for text in ("", "a", "ab" * 100):
            self.assert_told(((), ((),), (), (0,), (), ((0, "ab", 0),)), text, ())
            self.assert_told(((), ((),), (0,), (), (), ((0, "ab", 0),)), text, ())
            self.assert_told(((), ((),), (0,), (0,), (), ((0, "ab", 0),)), text, ((),))
        self.assert_told(((), ((),), (0,), (0,), (), ()), "a", ())

    def test_rows_that_only_a_step_at_the_very_end_makes(self):
        machine = (("x",), ((0,), (2,)), (0,), (1,), ((0, BOTH, 1),), ((0, "ab", 0),))
        self.assert_told(machine, "", (((0, 0),),))
        self.assert_told(machine, "abab", (((4, 4),),))
        self.assert_told((*machine[:3], (0, 1), *machine[4:]), "ab", (((2, 2),), (None,)))

    def test_steps_without_marks_are_told_apart_from_nothing(self):
        machine = (("x",), ((0,), (0,), (2,)), (0,), (0, 1, 2), ((0, (), 1), (1, (), 0), (1, BOTH, 2)),
                   ((0, "a", 0), (1, "a", 1), (2, "a", 2)))
        self.assert_told(machine, "aa", (((1, 1),), ((2, 2),), (None,)))

    def test_chance_machines(self):
        numbers = random.Random(170)
        rows = 0
        for _ in range(300):
            machine = chance_machine(numbers, ("x", "y", "z")[:numbers.randint(0, 3)])
            before = frozen(machine)
            for text in numbers.sample(texts("ab", 4), 3):
                expected = told(told_rows(machine, text), machine[0])
                self.assert_told(machine, text, expected)
                rows += len(expected)
            self.assertEqual(frozen(machine), before)
        self.assertGreater(rows, 1000)

    def test_sound_patterns_by_chance(self):
        for pattern in sound_patterns(171, 150, names="xy"):
            machine = made(pattern)
            for text in random.Random(repr(pattern)).sample(texts("ab ", 4), 6):
                self.assertEqual(tuple(rows_left(Told(machine, text))), rows_of(pattern, text), (pattern, text))

    def test_plans_of_which_a_machine_is_made(self):
        deeds = {"join": joint, "either": choice, "without": rest}
        for one, other in (("<x:a*>.*", ".*<x:b*>"), ("a*<x:b?>", "a?<x:b*>"), ("<x:.>.*", "<x:a*>b*")):
            for kind, deed in deeds.items():
                plan = (kind, ("pattern", read(one)), ("pattern", read(other)))
                machine = deed(made(read(one)), made(read(other)))
                for text in texts("ab", 4):
                    self.assertEqual(tuple(rows_left(Told(machine, text))), meaning(plan, text).rows)
                    few_rows = meaning(("only", (), plan), text).rows
                    self.assertEqual(tuple(rows_left(Told(few(machine, ()), text))), few_rows)

    def test_very_many_runs_and_rows_of_which_a_few_are_asked_for(self):
        machine = crowd(20)
        teller = Told(machine, "a" * 200)
        expected = [((0, 1), (2, end)) for end in range(3, 201)]
        for row in expected:
            before = teller.opened()
            self.assertEqual(teller.more(), row)
            self.assertLessEqual(teller.opened() - before, 201)
        self.assertEqual(teller.more(), ((0, 1), (3, 4)))
        self.assertEqual(teller.opened(), len(beginnings([*expected, ((0, 1), (3, 4))], ("x", "y"), 200)))
        self.assertIs(teller.left(), True)

    def test_four_names_and_two_hundred_signs(self):
        machine = made(read(".*<a:.*<b:.*>.*<c:.*>.*<d:.*>.*>.*"))
        teller = Told(machine, "ab" * 100)
        rows = [teller.more() for _ in range(60)]
        self.assertEqual(rows[0], ((0, 1), (1, 1), (1, 1), (1, 1)))
        self.assertEqual(tuple(rows), told(rows, machine[0]))
        for row in rows:
            self.assertEqual(why(machine, "ab" * 100, row)[0], "run")
        self.assertEqual(teller.opened(), len(beginnings(rows, machine[0], 200)))

    def test_a_machine_of_400_states(self):
        chain = tuple((k, "ab", k + 1) for k in range(398))
        machine = (("x",), ((0,),) * 399 + ((2,),), tuple(range(300)), (399,), tuple((k, BOTH, 399) for k in range(399)),
                   (*chain, (399, "ab", 399)))
        self.assertEqual(rows_left(Told(machine, "ab" * 100)), [((k, k),) for k in range(201)])


class Each(unittest.TestCase):
    machine = made(read(".*<x:.*>.*"))
    rows = list(rows_of(read(".*<x:.*>.*"), "abc"))

    def test_all_that_are_left(self):
        teller = Told(self.machine, "abc")
        found = []
        self.assertEqual(teller.each(found.append), len(self.rows))
        self.assertEqual(found, self.rows)
        self.assertEqual(teller.each(found.append), 0)
        self.assertEqual((teller.sofar(), teller.left(), teller.more()), (len(self.rows), False, None))

    def test_at_most_so_many(self):
        teller = Told(self.machine, "abc")
        found = []
        self.assertEqual(teller.each(found.append, most=0), 0)
        self.assertEqual((found, teller.opened(), teller.sofar(), teller.left()), ([], 0, 0, True))
        self.assertEqual(teller.each(found.append, most=2), 2)
        self.assertEqual(found, self.rows[:2])
        self.assertEqual(teller.more(), self.rows[2])
        self.assertEqual(teller.each(found.append, most=1), 1)
        self.assertEqual(teller.each(found.append, most=100), len(self.rows) - 4)
        self.assertEqual(found, self.rows[:2] + self.rows[3:])
        self.assertEqual(teller.each(found.append, most=5), 0)

    def test_most_is_told_by_name(self):
        self.assertRaises(TypeError, Told(self.machine, "abc").each, print, 1)

    def test_more_and_each_are_refused_within_tell_and_all_else_may_be_asked(self):
        teller = Told(self.machine, "abc")
        seen = []

        def tell(row):
            self.assertRaises(Busy, teller.more)
            self.assertRaises(Busy, teller.each, seen.append)
            self.assertRaises(Busy, teller.each, seen.append, most=0)
            self.assertRaises(Busy, teller.more)
            seen.append((row, teller.sofar(), teller.opened(), teller.left()))
        self.assertEqual(teller.each(tell), len(self.rows))
        for many, (row, sofar, opened, left) in enumerate(seen, start=1):
            self.assertEqual((row, sofar, left), (self.rows[many - 1], many, many < len(self.rows)))
            self.assertEqual(opened, len(beginnings(self.rows[:many], ("x",), 3)))
        self.assertIs(teller.more(), None)

    def test_what_tell_raises_goes_through(self):
        for error in (ValueError, KeyError, StopIteration, KeyboardInterrupt, Busy):
            teller = Told(self.machine, "abc")
            found = []

            def tell(row):
                found.append(row)
                if len(found) == 3:
                    raise error()
            self.assertRaises(error, teller.each, tell)
            self.assertEqual((found, teller.sofar(), teller.left()), (self.rows[:3], 3, True))
            self.assertEqual(teller.more(), self.rows[3])
            self.assertEqual(teller.each(found.append), len(self.rows) - 4)
            self.assertEqual(found, self.rows[:3] + self.rows[4:])

    def test_tell_that_raises_at_the_last_row(self):
        teller = Told(self.machine, "")

        def tell(row):
            raise LookupError(row)
        self.assertRaises(LookupError, teller.each, tell)
        self.assertEqual((teller.sofar(), teller.left(), teller.more(), teller.each(tell)), (1, False, None, 0))

    def test_another_object_isnt_busy(self):
        one, other = Told(self.machine, "abc"), Told(self.machine, "abc")
        found = []
        self.assertEqual(one.each(lambda row: found.append(other.more())), len(self.rows))
        self.assertEqual(found, self.rows)

    def test_of_no_rows(self):
        teller = Told(((), ((),), (), (), (), ()), "")
        self.assertEqual(teller.each(self.fail), 0)
        self.assertIs(teller.more(), None)

    def test_objects_share_nothing(self):
        one, other = Told(self.machine, "ab"), Told(self.machine, "abc")
        self.assertEqual([one.more(), other.more(), one.more(), other.more()],
                         [((0, 1),), ((0, 1),), ((0, 2),), ((0, 2),)])
        self.assertEqual((one.sofar(), one.opened(), other.sofar(), other.opened()), (2, 4, 2, 6))


if __name__ == "__main__":
    unittest.main()
