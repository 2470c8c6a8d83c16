"""[27]: whether a name can still be filled, and shut sets."""

import random
import unittest

from markpieces.ahead import ahead, shut_holds
from markpieces.errors import NoName, Unread
from markpieces.made import made
from markpieces.read import read
from markpieces.runs import run_holds
from markpieces.tables import Table
from tests.helpers import frozen, odd_things, texts, variants
from tests.machinery import chance_machine, marks_and_states, told_rows

BOTH = (("x", 0), ("x", 1))


def behind_text(machine, text):
    """A set of all states behind the last sign, by whatever marks."""
    states = set(machine[2])
    for sign in text:
        states = {further for state in states for marks, other in marks_and_states(machine, state)
                  for one, signs, further in machine[5] if one == other and sign in signs}
    return states


def fills(machine, state, name):
    """Whether the state is an end that has the name, with None any end."""
    return state in machine[3] and (name is None or machine[1][state][machine[0].index(name)] == 2)


def is_shut(machine, text, name, thing):
    """Whether it is a shut set, by the words of [27]."""
    if type(thing) is not tuple or any(type(state) is not int for state in thing):
        return False
    if list(thing) != sorted(set(thing)) or not set(thing) <= set(range(len(machine[1]))):
        return False
    if not behind_text(machine, text) <= set(thing):
        return False
    for state in thing:
        for marks, other in marks_and_states(machine, state):
            if fills(machine, other, name):
                return False
            if any(one == other and further not in thing for one, signs, further in machine[5]):
                return False
    return True


def may_fill(machine, text, name):
    """Whether some text that begins so has such a row: by going on from all states."""
    states = behind_text(machine, text)
    while True:
        behind = {other for state in states for marks, other in marks_and_states(machine, state)}
        if any(fills(machine, state, name) for state in behind):
            return True
        more = {further for one, signs, further in machine[5] if one in behind}
        if more <= states:
            return False
        states |= more


class Ahead(unittest.TestCase):
    def assert_ahead(self, machine, text, name, *, by_words=True):
        """What is told is let by; tells whether it is yes."""
        before = frozen(machine)
        found = ahead(machine, text, name)
        self.assertEqual(frozen(machine), before)
        self.assertIs(type(found), tuple)
        if found[0] == "no":
            self.assertEqual(len(found), 2)
            self.assertIs(shut_holds(machine, text, name, found[1]), True)
            self.assertTrue(not by_words or is_shut(machine, text, name, found[1]))
            return False
        word, longer, row, run = found
        self.assertEqual(word, "yes")
        self.assertEqual(longer[:len(text)], text)
        self.assertIs(type(row), tuple)
        self.assertEqual(len(row), len(machine[0]))
        self.assertIs(run_holds(machine, longer, row, run), True)
        self.assertTrue(name is None or row[machine[0].index(name)] is not None)
        for piece in row:
            self.assertTrue(piece is None or 0 <= piece[0] <= piece[1] <= len(longer))
        return True

    def test_ordinary(self):
        machine = made(read("a*<x:b+>(c|<y:d>)"))
        for text, x, y in (("", 1, 1), ("aa", 1, 1), ("ab", 1, 1), ("abc", 1, 0), ("abd", 1, 1), ("abcc", 0, 0), ("ba", 0, 0)):
            self.assertEqual(self.assert_ahead(machine, text, "x"), bool(x), text)
            self.assertEqual(self.assert_ahead(machine, text, "y"), bool(y), text)
            self.assertEqual(self.assert_ahead(machine, text, None), bool(x), text)

    def test_a_name_that_is_never_filled(self):
        machine = made(read("a*<x:b>|(a|b)*"))
        self.assertEqual(self.assert_ahead(machine, "aab", "x"), True)
        self.assertEqual(self.assert_ahead(machine, "aaba", "x"), False)
        self.assertEqual(self.assert_ahead(machine, "aaba", None), True)
        self.assertEqual(self.assert_ahead(machine, "aabac", None), False)

    def test_a_name_that_only_a_step_at_the_very_end_can_fill(self):
        machine = (("x",), ((0,), (2,)), (0,), (0, 1), ((0, BOTH, 1),), ((0, "a", 0),))
        for text in ("", "a", "a" * 100):
            self.assertEqual(self.assert_ahead(machine, text, "x"), True)
            self.assertEqual(ahead(machine, text, "x"), ("yes", text, ((len(text),) * 2,), (0,) * (2 * len(text) + 1) + (1,)))
        self.assertEqual(self.assert_ahead(machine, "b", "x"), False)

    def test_a_name_whose_piece_has_ended_already(self):
        machine = made(read("<x:a>b*c"))
        for text in ("a", "abbb", "abc"):
            self.assertEqual(self.assert_ahead(machine, text, "x"), True)
        self.assertEqual(self.assert_ahead(machine, "abca", "x"), False)

    def test_the_empty_text_is_at_the_starts(self):
        machine = ((), ((), (), ()), (1,), (2,), ((1, (), 2),), ((0, "a", 2), (2, "a", 0)))
        self.assertEqual(ahead(machine, "", None), ("yes", "", (), (1, 2)))
        self.assertIs(shut_holds((*machine[:3], (), *machine[4:]), "", None, (1,)), False)
        self.assertIs(shut_holds((*machine[:3], (), *machine[4:]), "", None, (0, 1, 2)), True)

    def test_machines_without_starts_ends_or_names(self):
        for text in ("", "a"):
            self.assertEqual(self.assert_ahead((("x",), ((0,), (2,)), (), (0, 1), ((0, BOTH, 1),), ((0, "a", 0),)), text, "x"), False)
            self.assertEqual(self.assert_ahead((("x",), ((0,), (2,)), (0,), (), ((0, BOTH, 1),), ((0, "a", 0),)), text, "x"), False)
            self.assertEqual(self.assert_ahead(((), ((),), (0,), (), (), ((0, "a", 0),)), text, None), False)
            self.assertEqual(self.assert_ahead(((), ((),), (), (0,), (), ((0, "a", 0),)), text, None), False)
            self.assertEqual(self.assert_ahead(((), ((),), (0,), (0,), (), ((0, "a", 0),)), text, None), True)

    def test_no_name(self):
        machine = made(read("<x:a>"))
        for name in ("y", "xx", "a"):
            for asked in (lambda: ahead(machine, "a", name), lambda: shut_holds(machine, "a", name, (0,)),
                          lambda: shut_holds(machine, "a", name, None)):
                with self.assertRaises(NoName) as caught:
                    asked()
                self.assertEqual(caught.exception.name, name)
        self.assertRaises(NoName, ahead, made(read("a")), "", "x")

    def test_texts_of_100_signs_and_machines_of_40_states(self):
        marks = (("x", 0),), (("x", 1),)
        stands = ((0,),) * 38 + ((1,), (2,))
        reads = [(k, "ab", k + 1) for k in range(37)] + [(37, "a", 0), (37, "b", 37), (38, "c", 38), (39, "abc", 39)]
        machine = (("x",), stands, (0,), (39,), ((37, marks[0], 38), (38, marks[1], 39)), tuple(sorted(reads)))
        for text in ("ab" * 50, "a" * 100, "b" * 100, "b" * 99 + "c", "", "c", "b" * 37 + "c" * 63):
            for name in ("x", None):
                self.assertEqual(self.assert_ahead(machine, text, name), may_fill(machine, text, name), text)
        whole = tuple((a, "abcdefghijklmnopqrstuvwxyz"[a % 20:], b) for a in range(40) for b in range(40))
        machine = ((), ((),) * 40, tuple(range(40)), (), tuple((a, (), b) for a in range(40) for b in range(40)), whole)
        self.assertEqual(self.assert_ahead(machine, "xyz" * 33, None, by_words=False), False)
        self.assertEqual(self.assert_ahead((*machine[:3], (7,), *machine[4:]), "xyz" * 33, None), True)

    def test_somewhat_beyond_the_bounds(self):
        chain = tuple((k, "a", k + 1) for k in range(399))
        machine = ((), ((),) * 400, (0,), (399,), (), chain)
        self.assertEqual(self.assert_ahead(machine, "a" * 200, None), True)
        self.assertEqual(self.assert_ahead(machine, "a" * 199 + "b", None), False)

    def test_chance_machines(self):
        numbers = random.Random(180)
        kinds = {True: 0, False: 0}
        for _ in range(300):
            machine = chance_machine(numbers, ("x", "y")[:numbers.randint(0, 2)], moves=numbers.choice((6, 10, 20)))
            for text in numbers.sample(texts("ab", 3), 2) + ["ab" * 10]:
                for name in (*machine[0], None):
                    told = self.assert_ahead(machine, text, name)
                    self.assertEqual(told, may_fill(machine, text, name), (machine, text, name))
                    kinds[told] += 1
        self.assertGreater(min(kinds.values()), 300, kinds)

    def test_against_the_rows_of_longer_texts(self):
        numbers = random.Random(181)
        for _ in range(60):
            machine = chance_machine(numbers, ("x",), most=3, moves=8)
            for text in texts("ab", 1):
                rows = [row for more in texts("ab", 3) for row in told_rows(machine, text + more)]
                # Three states: what can be filled at all can be within three more signs.
                self.assertEqual(self.assert_ahead(machine, text, "x"), any(row[0] is not None for row in rows))
                self.assertEqual(self.assert_ahead(machine, text, None), rows != [])


class Shut(unittest.TestCase):
    def test_more_states_than_need_be(self):
        machine = (("x",), ((0,), (0,), (0,), (2,)), (0,), (3,), ((2, BOTH, 3),),
                   ((0, "a", 0), (1, "a", 0), (2, "a", 0)))
        self.assertIs(shut_holds(machine, "a", "x", (0,)), True)
        self.assertIs(shut_holds(machine, "a", "x", (0, 1)), True)
        self.assertIs(shut_holds(machine, "a", "x", (0, 1, 2)), False)
        self.assertIs(shut_holds(machine, "a", "x", (1,)), False)
        self.assertIs(shut_holds(machine, "a", "x", ()), False)
        self.assertIs(shut_holds(machine, "b", "x", ()), True)
        self.assertIs(shut_holds(machine, "b", "x", (3,)), False)
        self.assertIs(shut_holds(machine, "b", "x", (0, 1)), True)
        self.assertIs(shut_holds(machine, "b", "x", (1,)), False)

    def test_an_end_without_the_name_is_let_by_but_with_none(self):
        machine = (("x",), ((0,), (2,)), (0,), (0, 1), (), ((0, "a", 0), (1, "a", 1)))
        self.assertIs(shut_holds(machine, "a", "x", (0,)), True)
        self.assertIs(shut_holds(machine, "a", None, (0,)), False)
        self.assertIs(shut_holds(machine, "a", "x", (0, 1)), False)
        self.assertIs(shut_holds((*machine[:3], (1,), *machine[4:]), "a", None, (0,)), True)

    def test_reads_behind_a_step(self):
        machine = (("x",), ((0,), (1,), (1,)), (0,), (), ((0, (("x", 0),), 1),), ((1, "a", 2), (2, "b", 2)))
        self.assertIs(shut_holds(machine, "", "x", (0,)), False)
        self.assertIs(shut_holds(machine, "", "x", (0, 2)), True)
        self.assertIs(shut_holds(machine, "", "x", (0, 1)), False)

    def test_things_of_any_kind(self):
        machine = made(read("a*<x:b>a?"))
        things = [*odd_things(), Table([], []), Unread(0), machine, ("no", (0,)), (0, 1, 1), (1, 0), (False,), (0, True), [0],
                  ([0],), (10 ** 39,), (-1, 0), (400,), b"a", b"", tuple(range(len(machine[1])))]
        for text in ("", "ba", "bab"):
            for name in ("x", None):
                for thing in things + variants(ahead(machine, "bab", name)[1], random.Random(182)):
                    before = frozen(thing)
                    self.assertIs(shut_holds(machine, text, name, thing), is_shut(machine, text, name, thing), thing)
                    self.assertEqual(frozen(thing), before)

    def test_against_the_words(self):
        numbers = random.Random(183)
        kinds = {True: 0, False: 0}
        for _ in range(200):
            machine = chance_machine(numbers, ("x", "y")[:numbers.randint(0, 2)], moves=numbers.choice((6, 10)))
            for text in numbers.sample(texts("ab", 3), 2):
                for name in (*machine[0], None):
                    told = ahead(machine, text, name)
                    some = told[1] if told[0] == "no" else tuple(sorted(behind_text(machine, text)))
                    count = len(machine[1])
                    more = [tuple(sorted({*some, numbers.randrange(count)})) for _ in range(3)]
                    less = [tuple(state for state in some if state != at) for at in some]
                    for thing in [some, tuple(range(count)), *more, *less, *variants(some, numbers)[:6]]:
                        expected = is_shut(machine, text, name, thing)
                        self.assertIs(shut_holds(machine, text, name, thing), expected, (machine, text, name, thing))
                        kinds[expected] += 1
        self.assertGreater(min(kinds.values()), 300, kinds)


if __name__ == "__main__":
    unittest.main()
