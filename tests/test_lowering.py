"""[35]: plans lowered."""

import random
import unittest

from markpieces.errors import NoMove
from markpieces.lowering import lowered
from markpieces.meaning import parted
from markpieces.plans import fault_of, names_in
from markpieces.read import read
from markpieces.rules import led, moved
from tests.helpers import frozen, walked
from tests.rulebook import LOWERING, done, some_plan

P = ("pattern", read("<x:a*><y:b?>a?"))
Q = ("pattern", read("<x:a?><y:.*>"))
Z = ("pattern", read("<z:a>?.*"))


class Lowered(unittest.TestCase):
    def assert_lowered(self, plan, *, meant=False):
        """The moves lead there, none back, and no lowering rule can be done any more; tells the other plan."""
        before = frozen(plan)
        found = lowered(plan)
        self.assertEqual(frozen(plan), before)
        self.assertIs(type(found), tuple)
        other, moves = found
        self.assertIs(type(moves), tuple)
        self.assertTrue(all(move[2] == 0 for move in moves), moves)
        self.assertEqual(led(plan, list(moves)), other)
        for path, _ in walked(other):
            for rule in LOWERING:
                self.assertIs(done(other, (path, rule, 0)), None, (plan, other, path, rule))
                self.assertRaises(NoMove, moved, other, (path, rule, 0))
        self.assertIs(fault_of(other), None)
        self.assertEqual(names_in(other), names_in(plan))
        if meant:
            self.assertIs(parted(plan, other, most=2), None, plan)
        return other

    def test_what_is_low_already(self):
        for plan in (P, ("join", P, Z), ("only", ("x",), P), ("same", "x", "y", P), ("only", ("x",), ("same", "x", "y", P)),
                     ("without", P, Q), ("only", ("x",), ("join", P, Q)), ("same", "x", "y", ("join", Z, P))):
            self.assertEqual(lowered(plan), (plan, ()))
            self.assert_lowered(plan)

    def test_each_rule(self):
        for plan, other in ((("only", ("x", "z"), ("either", P, Z)), ("either", ("only", ("x",), P), Z)),
                            (("only", (), ("only", ("x",), P)), ("only", (), P)),
                            (("only", ("x", "y"), P), P),
                            (("only", ("x", "z"), ("join", P, Z)), ("join", ("only", ("x",), P), Z)),
                            (("same", "x", "y", ("either", P, Q)), ("either", ("same", "x", "y", P), ("same", "x", "y", Q))),
                            (("same", "x", "y", ("join", P, Q)), ("join", ("same", "x", "y", P), Q)),
                            (("same", "x", "x", ("only", ("x",), P)), ("only", ("x",), ("same", "x", "x", P))),
                            (("same", "x", "y", ("without", P, Q)), ("without", ("same", "x", "y", P), Q))):
            self.assertEqual(self.assert_lowered(plan, meant=True), other)

    def test_seven_forms_of_onlys_and_sames_above_all_others(self):
        for core in (("either", P, Q), ("join", P, Q), ("without", P, Q), ("either", P, Z), ("join", Z, P)):
            for many in range(16):
                plan = core
                for bit in range(4):
                    inner = names_in(plan)
                    x, y = ("x", "x") if "y" not in inner else ("x", "y")
                    plan = ("only", inner if bit % 2 else ("x",), plan) if many >> bit & 1 else ("same", x, y, plan)
                self.assertEqual(len(walked(plan)), 7)
                self.assert_lowered(plan, meant=many % 5 == 0)
        plan = P
        for _ in range(3):
            plan = ("same", "x", "x", ("only", ("x",), plan))
        self.assertEqual(len(walked(plan)), 7)
        self.assertEqual(self.assert_lowered(plan)[:2], ("only", ("x",)))

    def test_what_grows(self):
        plan = ("either", P, Q)
        for _ in range(4):
            plan = ("same", "x", "y", plan)
        self.assertEqual(len(walked(self.assert_lowered(plan))), 11)
        plan = ("same", "x", "y", ("only", ("x", "y"), ("either", ("either", P, Q), P)))
        self.assertEqual(len(walked(plan)), 7)
        self.assert_lowered(plan, meant=True)

    def test_by_chance(self):
        numbers = random.Random(220)
        many = 0
        for _ in range(150):
            plan = some_plan(numbers, numbers.randint(2, 5))
            if len(walked(plan)) <= 7:
                self.assert_lowered(plan, meant=many % 4 == 0)
                many += lowered(plan)[1] != ()
        self.assertGreater(many, 30)

    def test_somewhat_beyond_seven_forms(self):
        numbers = random.Random(221)
        for _ in range(60):
            plan = some_plan(numbers, 6)
            if len(walked(plan)) <= 12:
                self.assert_lowered(plan)


if __name__ == "__main__":
    unittest.main()
