"""[26]: deeds on machines."""

import random
import unittest

from markpieces.deeds import choice, few, joint, rest
from markpieces.errors import NoName, TooMany, Unlike
from markpieces.machines import is_machine
from markpieces.made import made
from markpieces.read import read
from markpieces.runs import why
from markpieces.tables import Table, either, joined, only, without
from tests.helpers import frozen, texts
from tests.machinery import all_rows, chance_machine, told_rows

ON_TABLES = {joint: joined, choice: either, rest: without, few: only}
NOTHING = (("x",), ((0,),), (0,), (), (), ((0, "ab", 0),))


def of(text):
    """The machine of a pattern that is told by its text."""
    return made(read(text))


def empty(names, count=1):
    """A machine that tells nothing, with so many states."""
    return (tuple(names), ((0,) * len(names),) * count, (), (), (), ())


def table(machine, text):
    return Table(machine[0], list(told_rows(machine, text)))


class Deeds(unittest.TestCase):
    def assert_deed(self, deed, parts, through, more=()):
        """The machine is one, and tells what the deed on tables makes of what its parts tell."""
        before = frozen(parts)
        machine = deed(*parts, *more)
        self.assertIs(is_machine(machine), True, (deed, parts))
        rows = 0
        for text in through:
            tables = [table(part, text) for part in parts]
            told = ON_TABLES[deed](*tables, *more)
            self.assertEqual(machine[0], told.names)
            self.assertEqual(told_rows(machine, text), set(told.rows), (deed, parts, text))
            rows += len(told)
        self.assertEqual(frozen(parts), before)
        self.assertEqual(deed(*parts, *more), machine)
        return rows

    def chance_pair(self, numbers, names, most=6):
        """Two machines by chance, each of some of the names."""
        return [chance_machine(numbers, tuple(sorted(numbers.sample(names, numbers.randint(0, 2)))), most=most)
                for _ in range(2)]


class Joint(Deeds):
    def test_of_patterns(self):
        for one, other in (("<x:a*>.*", ".*<x:b*>"), ("<x:a*>.*", ".*<y:b*>"), (".*<x:.>.*<y:.>", ".*<y:b><z:.*>"), ("a*", ".*b"),
                           ("<x:a>?.*", "<x:a>?.*"), ("<x:>|a", "<x:a>|<x:>"), ("a|<x:>b", "<x:b>|.<y:>"), ("<x:a*>", "b")):
            self.assert_deed(joint, [of(one), of(other)], texts("ab", 3))

    def test_a_shared_name_that_is_none_in_both(self):
        machine = joint(of("<x:a>|a"), of("a|<x:>a"))
        self.assertEqual(told_rows(machine, "a"), {(None,)})

    def test_steps_without_marks_and_staying(self):
        step = (("x",), ((0,), (0,), (2,)), (0,), (1, 2), ((0, (), 1), (1, (("x", 0), ("x", 1)), 2)), ((1, "a", 1), (2, "a", 2)))
        plain = ((), ((), ()), (0,), (1,), ((0, (), 1), (1, (), 1)), ((0, "a", 1), (1, "a", 0)))
        for one in (step, plain):
            for other in (step, plain, of("<y:a*>a*")):
                self.assert_deed(joint, [one, other], texts("a", 4))

    def test_machines_that_tell_nothing(self):
        for one in (empty("x"), NOTHING, empty("y"), empty("", 7)):
            for other in (of("<x:a*>"), empty("x", 3), of("a*")):
                self.assertEqual(self.assert_deed(joint, [one, other], texts("a", 3)), 0)
                self.assertEqual(self.assert_deed(joint, [other, one], texts("a", 3)), 0)

    def test_chance_machines(self):
        numbers = random.Random(150)
        rows = 0
        for _ in range(250):
            rows += self.assert_deed(joint, self.chance_pair(numbers, "xyz"), numbers.sample(texts("ab", 3), 4))
        self.assertGreater(rows, 500)

    def test_as_large_as_it_is_asked(self):
        every = tuple((a, (), b) for a in range(100) for b in range(100))
        large = ((), ((),) * 100, (0,), (99,), every, ())
        for other in (empty("x"), ((), ((),), (0,), (0,), (), ())):
            self.assertIs(is_machine(joint(large, other)), True)
            self.assertIs(is_machine(joint(other, large)), True)
        ten = ((), ((),) * 10, tuple(range(10)), tuple(range(10)), tuple((a, (), b) for a in range(4) for b in range(4)),
               tuple((a, "ab", b) for a in range(4, 8) for b in range(3)))
        self.assert_deed(joint, [ten, ten], texts("ab", 2))
        wide = ((), ((),) * 50, (0,), (49,), tuple((a, (), b) for a in range(50) for b in range(10)), ())
        two = ((), ((), ()), (0,), (1,), ((0, (), 1),), ((1, "a", 1),))
        self.assert_deed(joint, [wide, two], [""])


class Choice(Deeds):
    def test_of_patterns(self):
        for one, other in (("<x:a*>.*", ".*<x:b*>"), ("<x:a*>.*", ".*<y:b*>"), (".*<x:.>.*<y:.>", ".*<y:b><z:.*>"), ("a*", ".*b"),
                           ("<x:a*>", "b"), ("<a:><b:>", "<c:><d:>")):
            self.assert_deed(choice, [of(one), of(other)], texts("ab", 3))

    def test_names_that_one_machine_lacks(self):
        self.assertEqual(told_rows(choice(of("<y:a>"), of("<x:a>")), "a"), {(None, (0, 1)), ((0, 1), None)})
        self.assertEqual(told_rows(choice(of("a"), of("<x:a>")), "a"), {((0, 1),), (None,)})

    def test_machines_that_tell_nothing(self):
        self.assertEqual(self.assert_deed(choice, [empty("x"), empty("y", 3)], texts("a", 2)), 0)
        self.assertEqual(told_rows(choice(NOTHING, of("<x:a>")), "a"), {((0, 1),)})

    def test_chance_machines(self):
        numbers = random.Random(151)
        rows = 0
        for _ in range(200):
            rows += self.assert_deed(choice, self.chance_pair(numbers, "wxyz"), numbers.sample(texts("ab", 3), 4))
        self.assertGreater(rows, 500)

    def test_as_large_as_it_is_asked(self):
        every = tuple((a, (), b) for a in range(99) for b in range(99))
        large = ((), ((),) * 99, (0,), (98,), every, ())
        self.assertIs(is_machine(choice(large, empty("x"))), True)
        self.assertIs(is_machine(choice(empty(""), large)), True)


class Few(Deeds):
    def test_of_patterns(self):
        for text, names in (("<x:.*><y:.*>", ["x"]), ("<x:.*><y:.*>", ("y",)), ("<x:.*><y:.*>", []), ("<x:.*><y:.*>", ["y", "x"]),
                            ("<x:a>?<y:a*>.*", ("x",)), ("(<x:>|<y:>)(<z:a>)?.*", ["z", "x"]), ("a*", ())):
            self.assert_deed(few, [of(text)], texts("ab", 3), [names])

    def test_names_in_another_order_stay_as_they_are(self):
        names = ["y", "x"]
        machine = few(of("<x:a><y:b><z:>"), names)
        self.assertEqual((names, machine[0]), (["y", "x"], ("x", "y")))
        names.clear()
        self.assertEqual(machine[0], ("x", "y"))

    def test_of_no_names(self):
        machine = few(of("<x:a*><y:a*>"), [])
        self.assertEqual(machine[0], ())
        self.assertEqual((told_rows(machine, "aa"), told_rows(machine, "ab")), ({()}, set()))

    def test_large_ones(self):
        every = [(a, b) for a in range(77) for b in range(77)]
        machine = (("x", "y"), ((0, 0),) * 77, (0,), (76,), tuple((a, (), b) for a, b in every),
                   tuple((a, "a", b) for a, b in every))
        self.assertIs(is_machine(few(machine, ["y"])), True)
        self.assertIs(is_machine(few(empty("abcd", 400), ["c", "a"])), True)

    def test_chance_machines(self):
        numbers = random.Random(152)
        rows = 0
        for _ in range(200):
            names = tuple(sorted(numbers.sample("xyz", numbers.randint(0, 3))))
            kept = numbers.sample(names, numbers.randint(0, len(names)))
            rows += self.assert_deed(few, [chance_machine(numbers, names)], numbers.sample(texts("ab", 3), 3), [kept])
        self.assertGreater(rows, 200)


class Rest(Deeds):
    def test_of_patterns(self):
        for one, other in (("<x:a*>.*", ".*<x:.>.*"), (".*<x:.*>.*", "a*<x:b*>"), ("(a|b)*", "a*b*"), ("<x:>.*", "<x:a>"),
                           ("<x:a>?.*", "<x:a>?a*")):
            self.assert_deed(rest, [of(one), of(other)], texts("ab", 4))

    def test_steps_without_marks_and_staying(self):
        step = ((), ((), ()), (0,), (1,), ((0, (), 1),), ((0, "a", 1), (1, "b", 0)))
        loop = ((), ((), ()), (0,), (0,), ((0, (), 1), (1, (), 0)), ((1, "ab", 1),))
        everything = ((), ((),), (0,), (0,), (), ((0, "ab", 0),))
        for one in (step, loop, everything):
            for other in (step, loop, everything):
                self.assert_deed(rest, [one, other], texts("ab", 4))

    def test_machines_that_tell_nothing(self):
        for one in (empty("x"), NOTHING):
            self.assertEqual(self.assert_deed(rest, [one, of("<x:a>")], texts("a", 2)), 0)
            self.assertEqual(told_rows(rest(of("<x:a>"), one), "a"), {((0, 1),)})
            self.assertEqual(self.assert_deed(rest, [one, one], texts("a", 2)), 0)

    def test_just_what_the_other_tells_is_gone(self):
        one = of("<x:a*>a*")
        self.assertEqual(self.assert_deed(rest, [one, one], texts("a", 5)), 0)
        self.assertEqual(told_rows(rest(one, of("<x:a>a*")), "aa"), {((0, 0),), ((0, 2),)})

    def test_chance_machines(self):
        numbers = random.Random(153)
        rows = 0
        for _ in range(300):
            names = ("x", "y")[:numbers.randint(0, 2)]
            pair = [chance_machine(numbers, names, most=6), chance_machine(numbers, names, most=5)]
            rows += self.assert_deed(rest, pair, numbers.sample(texts("ab", 3), 4))
        self.assertGreater(rows, 300)

    def test_as_large_as_it_is_asked(self):
        numbers = random.Random(154)
        for _ in range(150):
            pair = []
            for count in (6, 5):
                reads = {(numbers.randrange(count), numbers.choice("abc"), numbers.randrange(count)) for _ in range(16)}
                steps = {(numbers.randrange(count), (), numbers.randrange(count)) for _ in range(4)}
                pair.append(((), ((),) * count, (0,), (count - 1,), tuple(sorted(steps)), tuple(sorted(reads))))
            self.assert_deed(rest, pair, ["", "abc", "cab", "aacbb"])

    def test_the_other_comes_to_every_set_of_its_states(self):
        # a goes round, b changes the first two, c forgets the first: so all 32 sets come, beside 6 states.
        one = ((), ((),) * 6, (0,), (0, 3), tuple((k, (), (k + 1) % 6) for k in range(6)),
               tuple(sorted((k, "abc", (k + 1) % 6) for k in range(6))))
        turns = [(k, "a", (k + 1) % 5) for k in range(5)] + [(0, "b", 1), (1, "b", 0)]
        turns += [(k, "b", k) for k in (2, 3, 4)] + [(k, "c", k) for k in (1, 2, 3, 4)]
        other = ((), ((),) * 5, (0, 1, 2, 3, 4), (2,), (), tuple(sorted(turns)))
        machine = rest(one, other)
        self.assertGreater(len(machine[1]), 300)
        self.assert_deed(rest, [one, other], texts("abc", 4) + ["cacaca", "acacacacb"])


class Refused(unittest.TestCase):
    def test_too_many_names(self):
        for deed in (joint, choice):
            self.assertEqual(len(deed(empty("ab"), empty("cd"))[0]), 4)
            self.assertEqual(len(deed(empty("abcd"), empty("bcd"))[0]), 4)
            for names, others, count in (("ab", "cde", 5), ("abcd", "e", 5), ("abcd", "efgh", 8), ("abc", "bcde", 5)):
                with self.assertRaises(TooMany) as caught:
                    deed(empty(names), empty(others))
                self.assertEqual(caught.exception.count, count)

    def test_unlike_names(self):
        for names, others, odd in (("", "x", ("x",)), ("xy", "yz", ("x", "z")), ("abcd", "", ("a", "b", "c", "d"))):
            with self.assertRaises(Unlike) as caught:
                rest(empty(names), empty(others))
            self.assertEqual(caught.exception.names, odd)

    def test_a_name_that_is_not_there(self):
        for names, first in ((["y"], "y"), (("x", "z", "a"), "z"), (["b", "x", "a"], "b")):
            with self.assertRaises(NoName) as caught:
                few(empty("x"), names)
            self.assertEqual(caught.exception.name, first)


class Together(Deeds):
    def test_deeds_on_what_deeds_made(self):
        one, other, third = of("<x:a*>.*"), of(".*<y:b>"), of("<x:a>b<y:b>")
        both = joint(one, other)
        self.assert_deed(rest, [both, third], texts("ab", 4))
        self.assert_deed(few, [rest(both, third)], texts("ab", 4), [["y"]])
        self.assert_deed(choice, [few(both, ["x"]), other], texts("ab", 4))

    def test_every_row_has_a_run_or_a_bar(self):
        machine = rest(joint(of("<x:a*>.*"), of(".*<y:b*>")), of("<x:a*><y:b*>"))
        for text in texts("ab", 3):
            rows = told_rows(machine, text)
            for row in all_rows(("x", "y"), len(text)):
                self.assertEqual(why(machine, text, row)[0], "run" if row in rows else "bar")


if __name__ == "__main__":
    unittest.main()
