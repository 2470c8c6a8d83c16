"""[30], [31]: likeness of two machines, and partings."""

import itertools
import random
import unittest

from markpieces.errors import Unread
from markpieces.likeness import alike_holds, part_holds
from markpieces.made import made
from markpieces.read import read
from markpieces.tables import Table
from tests.helpers import SIGNS, frozen, odd_things, texts, variants
from tests.machinery import all_rows, chance_machine, marks_and_states, told_rows

BOTH = (("x", 0), ("x", 1))
# Two machines for a*<x:>a*, the other one with another state ahead of the mark.
ONE = (("x",), ((0,), (2,)), (0,), (1,), ((0, BOTH, 1),), ((0, "a", 0), (1, "a", 1)))
OTHER = (("x",), ((0,), (0,), (2,)), (0,), (2,), ((0, BOTH, 2), (1, BOTH, 2)), ((0, "a", 1), (1, "a", 1), (2, "a", 2)))
LIKE = (((0,), (0,)), ((0,), (1,)), ((1,), (2,)))


def behind(machine, states, marks):
    """The states behind a step with just these marks, or staying."""
    return {other for state in states for told, other in marks_and_states(machine, state) if told == marks}


def read_by(machine, states, sign):
    return tuple(sorted({other for one, signs, other in machine[5] if one in states and sign in signs}))


def is_states(thing, count):
    if type(thing) is not tuple or any(type(state) is not int or not 0 <= state < count for state in thing):
        return False
    return list(thing) == sorted(set(thing))


def is_likeness(one, other, thing):
    """Whether it is a likeness, by the words of [30]."""
    if one[0] != other[0] or type(thing) is not tuple:
        return False
    for pair in thing:
        if type(pair) is not tuple or len(pair) != 2:
            return False
        if not is_states(pair[0], len(one[1])) or not is_states(pair[1], len(other[1])):
            return False
    if list(thing) != sorted(set(thing)) or (one[2], other[2]) not in thing:
        return False
    every = {()} | {marks for machine in (one, other) for state, marks, further in machine[4]}
    for pair, marks in itertools.product(thing, every):
        between = [behind(machine, states, marks) for machine, states in zip((one, other), pair)]
        if bool(between[0] & set(one[3])) != bool(between[1] & set(other[3])):
            return False
        for sign in SIGNS:
            further = (read_by(one, between[0], sign), read_by(other, between[1], sign))
            if further != ((), ()) and further not in thing:
                return False
    return True


def grown_pairs(one, other):
    """All pairs that the starts lead to, rising, whether or not something parts them."""
    pairs = [(one[2], other[2])]
    every = {()} | {marks for machine in (one, other) for state, marks, further in machine[4]}
    for pair in pairs:
        for marks in sorted(every):
            between = [behind(machine, states, marks) for machine, states in zip((one, other), pair)]
            for sign in "ab":
                further = (read_by(one, between[0], sign), read_by(other, between[1], sign))
                if further != ((), ()) and further not in pairs:
                    pairs.append(further)
    return tuple(sorted(pairs))


class Likeness(unittest.TestCase):
    def test_ordinary(self):
        self.assertIs(alike_holds(ONE, OTHER, LIKE), True)
        for at in range(3):
            self.assertIs(alike_holds(ONE, OTHER, LIKE[:at] + LIKE[at + 1:]), False)
        self.assertIs(alike_holds(OTHER, ONE, LIKE), False)
        self.assertIs(alike_holds(OTHER, ONE, tuple((b, a) for a, b in LIKE)), True)
        self.assertIs(alike_holds(ONE, ONE, (((0,), (0,)), ((1,), (1,)))), True)

    def test_more_pairs_than_need_be(self):
        self.assertIs(alike_holds(ONE, OTHER, (((), ()), *LIKE)), True)
        self.assertIs(alike_holds(ONE, OTHER, tuple(sorted([*LIKE, ((0,), (0, 1))]))), True)
        self.assertIs(alike_holds(ONE, OTHER, tuple(sorted([*LIKE, ((0, 1), (0, 1, 2))]))), False)
        self.assertIs(alike_holds(ONE, OTHER, tuple(sorted([*LIKE, ((0,), ())]))), False)

    def test_not_in_order_or_not_each_once(self):
        self.assertIs(alike_holds(ONE, OTHER, LIKE[::-1]), False)
        self.assertIs(alike_holds(ONE, OTHER, (LIKE[0], *LIKE)), False)
        self.assertIs(alike_holds(ONE, OTHER, list(LIKE)), False)
        self.assertIs(alike_holds(ONE, OTHER, (((False,), (0,)), *LIKE[1:])), False)
        self.assertIs(alike_holds(ONE, OTHER, (((0,), (0,), ()), *LIKE[1:])), False)

    def test_empty_pairs_and_machines_that_tell_nothing(self):
        nothing = (("x",), ((0,),), (), (), (), ())
        still = (("x",), ((0,),), (0,), (), (), ((0, "ab", 0),))
        self.assertIs(alike_holds(nothing, nothing, (((), ()),)), True)
        self.assertIs(alike_holds(nothing, nothing, ()), False)
        self.assertIs(alike_holds(nothing, still, (((), (0,)),)), True)
        self.assertIs(alike_holds(nothing, still, (((), ()),)), False)
        self.assertIs(alike_holds(nothing, ONE, grown_pairs(nothing, ONE)), False)

    def test_unlike_names(self):
        for names in (("y",), ()):
            other = (names, ((0,) * len(names),), (), (), (), ())
            self.assertIs(alike_holds((("x",), ((0,),), (), (), (), ()), other, (((), ()),)), False)
        both = ((), ((),), (0,), (0,), (), ((0, "a", 0),))
        self.assertIs(alike_holds(both, both, (((0,), (0,)),)), True)
        self.assertIs(alike_holds(both, ONE, (((0,), (0,)),)), False)

    def test_each_sign_counts(self):
        one = ((), ((),), (0,), (0,), (), ((0, SIGNS, 0),))
        self.assertIs(alike_holds(one, one, (((0,), (0,)),)), True)
        for sign in SIGNS:
            other = ((), ((),), (0,), (0,), (), ((0, SIGNS.replace(sign, ""), 0),))
            self.assertIs(alike_holds(one, other, (((0,), (0,)),)), False)
            self.assertIs(alike_holds(other, one, (((0,), (0,)),)), False)
            parts = ((), ((),), (0,), (0,), (), tuple(sorted([(0, SIGNS.replace(sign, ""), 0), (0, sign, 0)])))
            self.assertIs(alike_holds(one, parts, (((0,), (0,)),)), True)

    def test_marks_that_stand_in_one_machine_only(self):
        more = (*ONE[:4], (), ONE[5])
        pairs = grown_pairs(ONE, more)
        self.assertIs(alike_holds(ONE, more, pairs), False)
        self.assertIs(alike_holds(more, ONE, tuple(sorted((b, a) for a, b in pairs))), False)

    def test_steps_without_marks(self):
        one = ((), ((), ()), (0,), (1,), ((0, (), 1),), ((1, "a", 0),))
        other = ((), ((),), (0,), (0,), (), ((0, "a", 0),))
        self.assertIs(alike_holds(one, other, (((0,), (0,)),)), True)
        self.assertIs(alike_holds((*one[:4], (), one[5]), other, (((0,), (0,)),)), False)

    def test_things_of_any_kind(self):
        numbers = random.Random(190)
        machine = made(read("a"))
        for thing in [*odd_things(), Table([], []), Unread(0), ONE, b"a", ("alike", LIKE)]:
            before = frozen(thing)
            self.assertIs(alike_holds(ONE, OTHER, thing), False, thing)
            self.assertIs(alike_holds(ONE, machine, thing), False, thing)
            self.assertEqual(frozen(thing), before)
        for thing in variants(LIKE, numbers) * 3:
            self.assertIs(alike_holds(ONE, OTHER, thing), is_likeness(ONE, OTHER, thing), thing)

    def test_against_the_words(self):
        numbers = random.Random(191)
        kinds = {True: 0, False: 0}
        for _ in range(150):
            names = ("x", "y")[:numbers.randint(0, 1)]
            one = chance_machine(numbers, names, most=3, moves=8)
            other = one if numbers.random() < 0.5 else chance_machine(numbers, names, most=3, moves=8)
            pairs = grown_pairs(one, other)
            for thing in [pairs, pairs[1:], *variants(pairs, numbers)[:8]]:
                expected = is_likeness(one, other, thing)
                self.assertIs(alike_holds(one, other, thing), expected, (one, other, thing))
                kinds[expected] += 1
                if expected:
                    for text in texts("ab", 3):
                        self.assertEqual(told_rows(one, text), told_rows(other, text))
        self.assertGreater(min(kinds.values()), 60, kinds)


class Parting(unittest.TestCase):
    def test_ordinary(self):
        one, other = made(read("<x:a*>b?")), made(read("<x:a*>"))
        self.assertIs(part_holds(one, other, ("ab", ((0, 1),), 0)), True)
        self.assertIs(part_holds(other, one, ("ab", ((0, 1),), 1)), True)
        for thing in (("ab", ((0, 1),), 1), ("a", ((0, 1),), 0), ("a", ((0, 1),), 1), ("ab", ((0, 2),), 0), ("ab", (None,), 0),
                      ("ab", ((0, 1),), False), ("ab", ((0, True),), 0), ("ab", [(0, 1)], 0), ("ab", ([0, 1],), 0),
                      ["ab", ((0, 1),), 0], ("ab", ((0, 1),)), ("ab", ((0, 1),), 0, 0), ("ab", (), 0), ("ab", ((0, 1), None), 0),
                      ("ab", ((0, 1),), 2), ("ab", ((0, 1),), -1), ("ab", ((0, 1),), -2), ("ab", ((0, 1),), None),
                      ("AB", ((0, 1),), 0), (b"ab", ((0, 1),), 0), (("a", "b"), ((0, 1),), 0), ("ab", ((0, 1, 1),), 0),
                      ("ab", ((0,),), 0), ("ab", ("01",), 0), ("ab", ((1, 0),), 0), ("ab", ((-1, 1),), 0), ("ab", ((0, 3),), 0)):
            self.assertIs(part_holds(one, other, thing), False, thing)

    def test_pieces_beyond_the_text_are_none_of_a_row(self):
        # Marks beyond the text are seen nowhere: such a row must not pass for the one without pieces.
        one, other = made(read("a|a<x:b>")), made(read("b|b<x:b>"))
        self.assertIs(part_holds(one, other, ("a", (None,), 0)), True)
        self.assertIs(part_holds(one, other, ("a", ((5, 6),), 0)), False)
        self.assertIs(part_holds(one, other, ("a", ((2, 2),), 0)), False)

    def test_the_empty_text_and_no_names(self):
        one, other = made(read("a*")), made(read("a+"))
        self.assertIs(part_holds(one, other, ("", (), 0)), True)
        self.assertIs(part_holds(other, one, ("", (), 1)), True)
        self.assertIs(part_holds(one, other, ("a", (), 0)), False)
        self.assertIs(part_holds(one, one, ("", (), 0)), False)

    def test_texts_of_more_than_200_signs(self):
        one, other = made(read("<x:(ab)*>")), made(read("<x:(abab)*>"))
        self.assertIs(part_holds(one, other, ("ab" * 201, ((0, 402),), 0)), True)
        self.assertIs(part_holds(one, other, ("ab" * 200, ((0, 400),), 0)), False)
        self.assertIs(part_holds(one, other, ("ab" * 901, ((0, 1802),), 0)), True)
        self.assertIs(part_holds(one, other, ("ab" * 201 + "A", ((0, 402),), 0)), False)

    def test_unlike_names(self):
        self.assertIs(part_holds(made(read("a")), made(read("<x:a>")), ("a", (), 0)), False)
        self.assertIs(part_holds(made(read("<y:a>")), made(read("<x:a>")), ("a", ((0, 1),), 0)), False)

    def test_things_of_any_kind(self):
        numbers = random.Random(192)
        one, other = made(read("<x:a*>b?")), made(read("<x:a*>"))
        for thing in [*odd_things(), Table([], []), Unread(0), ONE, b"a", ("parted", "ab", ((0, 1),), 0)]:
            before = frozen(thing)
            self.assertIs(part_holds(one, other, thing), False, thing)
            self.assertEqual(frozen(thing), before)
        for thing in variants(("ab", ((0, 1),), 0), numbers) * 4:
            self.assertIs(part_holds(one, other, thing), frozen(thing) == frozen(("ab", ((0, 1),), 0)), thing)

    def test_against_the_rows(self):
        numbers = random.Random(193)
        kinds = {True: 0, False: 0}
        for _ in range(100):
            names = ("x", "y")[:numbers.randint(0, 2)]
            one, other = (chance_machine(numbers, names, most=4, moves=10) for _ in range(2))
            for text in numbers.sample(texts("ab", 3), 3):
                rows, others = told_rows(one, text), told_rows(other, text)
                every = all_rows(names, len(text))
                for row in {*numbers.sample(every, min(5, len(every))), *sorted(rows ^ others, key=repr)[:5]}:
                    for which in (0, 1):
                        expected = row in (rows - others, others - rows)[which]
                        self.assertIs(part_holds(one, other, (text, row, which)), expected)
                        kinds[expected] += 1
        self.assertGreater(min(kinds.values()), 200, kinds)


if __name__ == "__main__":
    unittest.main()
