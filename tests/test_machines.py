"""[22]: what is a machine."""

import random
import unittest

from markpieces.errors import Unread
from markpieces.machines import is_machine
from markpieces.tables import Table
from tests.helpers import frozen, odd_things, variants
from tests.machinery import chance_machine, is_plain_machine

X0, X1, BOTH = (("x", 0),), (("x", 1),), (("x", 0), ("x", 1))
GOOD = (("x",), ((0,), (1,), (2,)), (0,), (2,), ((0, (), 0), (0, X0, 1), (0, BOTH, 2), (1, X1, 2)),
        ((0, "ab", 0), (1, " a", 1), (2, "z", 2)))


def put(at, part):
    """GOOD with one part put in the place of that at a number."""
    return (*GOOD[:at], part, *GOOD[at + 1:])


class Machines(unittest.TestCase):
    def assert_no(self, *things):
        for thing in things:
            before = frozen(thing)
            self.assertIs(is_machine(thing), False, thing)
            self.assertEqual(frozen(thing), before)

    def assert_yes(self, *things):
        for thing in things:
            self.assertIs(is_machine(thing), True, thing)

    def test_good_ones(self):
        self.assert_yes(GOOD, ((), ((),), (), (), (), ()), ((), ((),), (0,), (0,), (), ()),
                        ((), ((), ()), (0, 1), (0, 1), ((0, (), 0), (0, (), 1), (1, (), 0)), ((0, "a", 1),)))
        self.assert_yes(put(2, ()), put(3, ()), put(4, ()), put(5, ()), put(3, (0,)), put(3, (0, 2)))
        self.assert_yes((("a", "b", "c", "d"), ((0, 1, 2, 0), (1, 2, 2, 2)), (), (), (
            (0, (("a", 0), ("b", 1), ("d", 0), ("d", 1)), 1),), ()))

    def test_things_of_other_kinds(self):
        self.assert_no(*odd_things(), list(GOOD), GOOD[:5], (*GOOD, ()), (GOOD,), Table([], []), Unread(0), b"a")
        for at in range(6):
            self.assert_no(put(at, list(GOOD[at])), put(at, None), put(at, "x"), put(at, 0), put(at, True),
                           put(at, Table([], [])), GOOD[:at] + GOOD[at + 1:])

    def test_names(self):
        for names in (("X",), ("",), ("abcdefghi",), (1,), (None,), (["x"],), ("x", "x"), ("x", "y"), (), ("x1",)):
            self.assert_no(put(0, names))
        self.assert_yes((("abcdefgh",), ((0,),), (), (), (), ()))
        self.assert_no((("b", "a"), ((0, 0),), (), (), (), ()), (("a", "a"), ((0, 0),), (), (), (), ()))
        self.assert_yes((("a", "b", "c", "d"), ((0,) * 4,), (0,), (0,), (), ()))
        self.assert_no((("a", "b", "c", "d", "e"), ((0,) * 5,), (0,), (0,), (), ()))

    def test_how_many_states(self):
        for count, fits in ((1, True), (2, True), (400, True), (401, False), (0, False)):
            self.assertIs(is_machine((("x",), ((0,),) * count, (), (), (), ())), fits, count)
        self.assert_yes(((), ((),) * 400, (0, 399), (399,), (), ((399, "a", 0),)))
        self.assert_no(((), ((),) * 400, (0, 400), (), (), ()), ((), ((),) * 400, (), (400,), (), ()))

    def test_stands(self):
        for stand in ((3,), (-1,), (True,), (False,), ("0",), (None,), (), (0, 0), [0], 0, ((0,),), (10 ** 39,)):
            self.assert_no(put(1, (*GOOD[1], stand)))
        self.assert_yes(put(1, (*GOOD[1], (1,))))

    def test_starts_and_ends(self):
        for states in ((0, 0), (True,), (False,), (-1,), (3,), ("0",), (None,), ((),), ([],), (10 ** 39,)):
            self.assert_no(put(2, states), put(3, states))
        self.assert_no(put(2, (1,)), put(2, (2,)), put(2, (0, 1)), put(3, (1,)), put(3, (0, 1)))
        many = ((), ((),) * 3, (0, 2), (1, 2), (), ())
        self.assert_yes(many)
        self.assert_no((*many[:2], (2, 0), *many[3:]), (*many[:3], (2, 1), *many[4:]))
        # The stand of a start is all 0, that of an end has no 1.
        two = (("x", "y"), ((0, 0), (0, 2), (2, 1), (2, 2)))
        for starts, ends, fits in (((0,), (), True), ((1,), (), False), ((2,), (), False), ((), (0, 1, 3), True),
                                   ((), (2,), False)):
            self.assertIs(is_machine((*two, starts, ends, (), ())), fits, (starts, ends))

    def test_steps(self):
        for step in ((0, (), 1), (0, X1, 1), (0, BOTH, 1), (0, X0, 2), (1, X0, 2), (1, (), 0), (2, (), 0), (2, X1, 1),
                     (0, X0, 0), (0, (("x", False),), 1), (1, (("x", True),), 2), (False, X0, 1), (0, X0, True),
                     [0, X0, 1], (0, list(X0), 1), (0, (["x", 0],), 1), (0, (("y", 0),), 1), (0, ("x", 0), 1),
                     (0, X0), (0, X0, 1, 1), (0, X0, 3), (-1, X0, 1), (0, None, 1), (0, "x", 1), (None, X0, 1), (),
                     None, (0, (("x", 1), ("x", 0)), 2), (0, BOTH + BOTH, 2), (0, (("x", 0, 0),), 1), (0, ((),), 0),
                     (0, (("x", 0), None), 1), (0, X0, "1"), (0, X0, 10 ** 39), ([], [], []),
                     (2, None, 0), (1, None, 0)):
            self.assert_no(put(4, (step,)))
        for step in ((0, (), 0), (0, X0, 1), (0, BOTH, 2), (1, X1, 2), (1, (), 1), (2, (), 2)):
            self.assert_yes(put(4, (step,)))
        self.assert_no(put(4, GOOD[4][::-1]), put(4, GOOD[4] + GOOD[4][-1:]), put(4, GOOD[4][:1] + GOOD[4]))

    def test_the_marks_of_several_names(self):
        names, states = ("x", "y"), ((0, 0), (1, 2), (2, 2))
        whole = (("x", 0), ("y", 0), ("y", 1))
        self.assert_yes((names, states, (0,), (2,), ((0, whole, 1), (1, X1, 2)), ()))
        for marks in (whole[:2], whole[1:], whole[::-1], (("y", 0), ("y", 1), ("x", 0)), (*whole, ("y", 1)), ()):
            self.assert_no((names, states, (0,), (2,), ((0, marks, 1),), ()))

    def test_reads(self):
        for one in ((0, "a", 1), (1, "a", 0), (0, "", 0), (0, "ba", 0), (0, "aa", 0), (0, "A", 0), (0, "a.", 0),
                    (0, ("a",), 0), (0, ["a"], 0), (0, None, 0), (0, 0, 0), (True, "a", True), (False, "a", 0),
                    (0, "a", False), [0, "a", 0], (0, "a"), (0, "a", 0, 0), (0, "a", 3), (-1, "a", -1), (3, "a", 3), (),
                    None, "aaa", (0, b"a", 0), (0, "\u00e9", 0), (0, "a" * 400, 0)):
            self.assert_no(put(5, (one,)))
        for one in ((0, " abcdefghijklmnopqrstuvwxyz", 0), (1, "a", 1), (2, " z", 2)):
            self.assert_yes(put(5, (one,)))
        self.assert_no(put(5, GOOD[5][::-1]), put(5, GOOD[5] + GOOD[5][-1:]))
        self.assert_yes(put(5, ((0, "a", 0), (0, "ab", 0), (0, "b", 0))))
        self.assert_no(put(5, ((0, "a", 0), (0, "b", 0), (0, "ab", 0))))

    def test_how_many_steps_and_reads(self):
        states = ((),) * 110
        every = [(a, b) for a in range(110) for b in range(110)]
        reads = tuple((a, "a", b) for a, b in every)
        steps = tuple((a, (), b) for a, b in every)
        for some, others in ((12000, 0), (0, 12000), (6000, 6000), (11999, 1)):
            self.assert_yes(((), states, (0,), (109,), steps[:some], reads[:others]))
            self.assert_no(((), states, (0,), (109,), steps[:some + 1], reads[:others]))
            self.assert_no(((), states, (0,), (109,), steps[:some], reads[:others + 1]))

    def test_chance_machines_and_what_is_changed_in_them(self):
        numbers = random.Random(120)
        kinds = {True: 0, False: 0}
        for _ in range(150):
            machine = chance_machine(numbers, ("x", "y", "z")[:numbers.randint(0, 3)])
            self.assert_yes(machine)
            for thing in variants(machine, numbers):
                self.assertIs(is_machine(thing), is_plain_machine(thing), thing)
                kinds[is_machine(thing)] += 1
        self.assertGreater(min(kinds.values()), 50, kinds)


if __name__ == "__main__":
    unittest.main()
