"""[19]: plans, their names and their faults."""

import random
import unittest

from markpieces.plans import fault_of, names_in
from markpieces.read import read
from tests.helpers import chance_patterns, chance_plan, frozen, is_sound, plain_fault, plain_names, sound_patterns


def of(text):
    """The plan of a pattern that is told by its text."""
    return ("pattern", read(text))


X, Y, XY = of("<x:a>"), of("<y:b>"), of("<x:a>(<y:b>)?")
IDLE, TWICE = of("(a*)*"), of("<x:a>*")
MANY = of("<a:><b:><c:>")


class Names(unittest.TestCase):
    def test_of_each_form(self):
        self.assertEqual(names_in(of("<y:a><x:b>")), ("x", "y"))
        self.assertEqual(names_in(of("a")), ())
        self.assertEqual(names_in(("join", Y, X)), ("x", "y"))
        self.assertEqual(names_in(("either", XY, Y)), ("x", "y"))
        self.assertEqual(names_in(("either", of("b"), of("a"))), ())
        self.assertEqual(names_in(("without", XY, ("join", X, Y))), ("x", "y"))
        self.assertEqual(names_in(("only", ("y",), XY)), ("y",))
        self.assertEqual(names_in(("only", (), XY)), ())
        self.assertEqual(names_in(("same", "y", "y", XY)), ("x", "y"))

    def test_within_one_another(self):
        self.assertEqual(names_in(("join", ("only", ("x",), XY), ("either", MANY, of("<b:>")))), ("a", "b", "c", "x"))


class Faults(unittest.TestCase):
    def test_sound_ones(self):
        for plan in (X, of(""), ("join", X, Y), ("join", X, X), ("either", X, Y), ("without", XY, XY), ("only", (), X),
                     ("only", ("x", "y"), XY), ("same", "x", "y", XY), ("same", "x", "x", X), ("join", MANY, X),
                     ("either", ("only", ("a", "b"), MANY), XY)):
            self.assertIsNone(fault_of(plan), plan)

    def test_each_fault(self):
        for plan, why in ((IDLE, "idle"), (TWICE, "twice"), (("join", MANY, XY), "names"), (("either", MANY, XY), "names"),
                          (("without", X, Y), "unlike"), (("without", X, XY), "unlike"), (("without", XY, X), "unlike"),
                          (("only", ("y",), X), "lacking"), (("only", ("x", "y"), X), "lacking"),
                          (("same", "x", "y", X), "lacking"), (("same", "y", "x", X), "lacking"),
                          (("same", "y", "y", X), "lacking"), (("same", "y", "z", of("a")), "lacking"),
                          (("only", ("a", "b", "c", "d", "e"), MANY), "lacking")):
            self.assertEqual(fault_of(plan), ((), why), plan)

    def test_idle_goes_ahead_of_twice(self):
        self.assertEqual(fault_of(of("(a*)*<x:><x:>")), ((), "idle"))

    def test_the_parts_go_ahead_and_the_left_one_first(self):
        self.assertEqual(fault_of(("join", TWICE, IDLE)), ((0,), "twice"))
        self.assertEqual(fault_of(("join", X, IDLE)), ((1,), "idle"))
        self.assertEqual(fault_of(("without", ("only", ("z",), X), IDLE)), ((0,), "lacking"))
        self.assertEqual(fault_of(("without", ("only", ("z",), IDLE), TWICE)), ((0, 0), "idle"))
        self.assertEqual(fault_of(("same", "q", "q", ("join", X, ("without", X, Y)))), ((0, 1), "unlike"))
        self.assertEqual(fault_of(("same", "q", "q", ("join", X, Y))), ((), "lacking"))
        self.assertEqual(fault_of(("either", ("join", MANY, XY), IDLE)), ((0,), "names"))
        self.assertEqual(fault_of(("either", Y, ("same", "x", "x", ("only", ("x",), TWICE)))), ((1, 0, 0), "twice"))

    def test_names_that_are_left_out_do_not_count(self):
        self.assertEqual(fault_of(("only", ("y",), ("only", ("x",), XY))), ((), "lacking"))
        self.assertIsNone(fault_of(("join", ("only", (), MANY), ("join", XY, ("only", ("a", "b"), MANY)))))
        self.assertEqual(fault_of(("without", ("only", ("x",), XY), XY)), ((), "unlike"))

    def test_twelve_forms_and_six_within_one_another(self):
        deep = X
        for _ in range(5):
            deep = ("same", "x", "x", deep)
        self.assertIsNone(fault_of(deep))
        self.assertEqual(names_in(deep), ("x",))
        deep = IDLE
        for _ in range(5):
            deep = ("either", X, deep)
        self.assertEqual(fault_of(deep), ((1, 1, 1, 1, 1), "idle"))
        wide = X
        for part in (Y, X, Y, X, XY):
            wide = ("join", wide, part)
        self.assertIsNone(fault_of(("only", ("x",), wide)))

    def test_against_the_words(self):
        numbers = random.Random(90)
        patterns = sound_patterns(91, 12, depth=4, names="abcxyz", signs="ab")
        odd = [p for p in chance_patterns(92, 40, depth=4, names="abcxyz") if not is_sound(p)][:3]
        patterns += [read("<a:><b:><c:>"), read("<x:a><y:b>?<z:>"), read("<a:>|<z:>")]
        words = {}
        for _ in range(3000):
            plan = chance_plan(numbers, numbers.choice((2, 3, 4, 6)), patterns * 4 + odd, "abcxyz")
            before = frozen(plan)
            fault = fault_of(plan)
            self.assertEqual(repr(fault), repr(plain_fault(plan)), plan)
            self.assertEqual(frozen(plan), before)
            words[fault and fault[1]] = words.get(fault and fault[1], 0) + 1
            if fault is None:
                self.assertEqual(names_in(plan), tuple(sorted(plain_names(plan))))
        self.assertEqual(set(words), {None, "idle", "twice", "names", "unlike", "lacking"})


if __name__ == "__main__":
    unittest.main()
