"""[33], [34]: rules, and plans led by them."""

import random
import unittest

from markpieces.errors import NoMove, Unread
from markpieces.meaning import parted
from markpieces.plans import fault_of, names_in
from markpieces.read import read
from markpieces.rules import led, moved
from markpieces.tables import Table
from tests.helpers import frozen, odd_things, plain_fault, variants, walked
from tests.rulebook import all_moves, deep, done, sided_plan, some_plan

P = ("pattern", read("<x:a*><y:b?>a?"))
Q = ("pattern", read("<x:a?><y:.*>"))
R = ("pattern", read("<x:>.<y:>|<y:a><x:b>"))
X = ("pattern", read("<x:a*>b*"))
Z = ("pattern", read("<z:a>?.*"))


class Moves(unittest.TestCase):
    def assert_both_ways(self, rule, left, right):
        """The rule leads from the left one to the right one and back, and both mean the same."""
        self.assertEqual(moved(left, ((), rule, 0)), right)
        self.assertEqual(moved(right, ((), rule, 1)), left)
        self.assertIs(parted(left, right), None)

    def assert_refused(self, plan, *moves):
        for move in moves:
            with self.assertRaises(NoMove, msg=(plan, move)):
                moved(plan, move)
            with self.assertRaises(NoMove, msg=(plan, move)):
                led(plan, [move])

    def test_0_to_3(self):
        self.assert_both_ways(0, ("join", P, Z), ("join", Z, P))
        self.assert_both_ways(1, ("join", ("join", P, X), Z), ("join", P, ("join", X, Z)))
        self.assert_both_ways(2, ("either", P, Z), ("either", Z, P))
        self.assert_both_ways(3, ("either", ("either", P, X), Z), ("either", P, ("either", X, Z)))
        self.assert_refused(P, *[((), rule, back) for rule in range(4) for back in (0, 1)])
        self.assert_refused(("join", P, Q), ((), 1, 0), ((), 1, 1), ((), 2, 0), ((), 2, 1))
        self.assert_refused(("join", ("join", P, Q), R), ((), 1, 1))
        self.assert_refused(("either", P, ("either", Q, R)), ((), 3, 0), ((), 0, 0))

    def test_4(self):
        self.assert_both_ways(4, ("join", Z, ("either", P, Q)), ("either", ("join", Z, P), ("join", Z, Q)))
        self.assert_refused(("join", Z, ("either", P, X)), ((), 4, 0))
        self.assert_refused(("either", ("join", Z, P), ("join", Z, X)), ((), 4, 1))
        self.assert_refused(("either", ("join", Z, P), ("join", X, Q)), ((), 4, 1))
        self.assert_refused(("join", ("either", P, Q), Z), ((), 4, 0))

    def test_5(self):
        self.assert_both_ways(5, ("only", ("x", "z"), ("either", P, Z)), ("either", ("only", ("x",), P), ("only", ("z",), Z)))
        self.assert_both_ways(5, ("only", (), ("either", P, Z)), ("either", ("only", (), P), ("only", (), Z)))
        self.assert_both_ways(5, ("only", ("x",), ("either", P, X)), ("either", ("only", ("x",), P), ("only", ("x",), X)))
        # Each only must have just those of N that are names of its plan.
        self.assert_refused(("either", ("only", ("x",), P), ("only", (), X)), ((), 5, 1))
        self.assert_refused(("either", ("only", ("x",), P), ("only", ("y",), Q)), ((), 5, 1))
        wide = ("pattern", read("<v:><w:>"))
        narrow = ("either", ("only", ("x",), ("join", P, Z)), ("only", ("v",), wide))
        self.assert_refused(narrow, ((), 5, 1))

    def test_6(self):
        plan = ("only", ("x",), ("only", ("x", "y"), P))
        self.assertEqual(moved(plan, ((), 6, 0)), ("only", ("x",), P))
        self.assert_refused(("only", ("x",), P), ((), 6, 1), ((), 6, 0))
        self.assert_refused(plan, ((), 6, 1))

    def test_7_to_9(self):
        self.assert_both_ways(7, ("only", ("x", "y"), P), P)
        self.assert_both_ways(7, ("only", (), ("only", (), P)), ("only", (), P))
        self.assert_refused(("only", ("x",), P), ((), 7, 0))
        self.assert_both_ways(8, ("join", P, P), P)
        self.assert_both_ways(9, ("either", P, P), P)
        self.assert_refused(("join", P, Q), ((), 8, 0), ((), 9, 0))
        self.assert_refused(("either", P, Q), ((), 8, 0), ((), 9, 0))

    def test_10_and_11(self):
        self.assert_both_ways(10, ("without", ("either", P, Q), R), ("either", ("without", P, R), ("without", Q, R)))
        self.assert_refused(("without", ("either", P, X), R), ((), 10, 0))
        self.assert_refused(("either", ("without", P, R), ("without", Q, P)), ((), 10, 1))
        self.assert_both_ways(11, ("without", ("without", P, Q), R), ("without", P, ("either", Q, R)))
        self.assert_refused(("without", P, ("either", X, R)), ((), 11, 1))
        self.assert_refused(("without", P, ("without", Q, R)), ((), 11, 0), ((), 11, 1))

    def test_12(self):
        self.assert_both_ways(12, ("only", ("x", "z"), ("join", X, ("join", X, Z))),
                              ("join", ("only", ("x",), X), ("only", ("x", "z"), ("join", X, Z))))
        self.assert_both_ways(12, ("only", ("x",), ("join", P, Z)), ("join", ("only", ("x",), P), ("only", (), Z)))
        self.assert_refused(("only", ("x",), ("join", P, Q)), ((), 12, 0))
        self.assert_refused(("join", ("only", ("x",), P), ("only", ("x",), Q)), ((), 12, 1))
        self.assert_refused(("join", ("only", ("x",), P), ("only", (), X)), ((), 12, 1))
        wide = ("join", ("pattern", read("<v:><w:>")), Z)
        self.assert_refused(("join", ("only", ("x",), P), ("only", ("v",), wide)), ((), 12, 1))

    def test_13_to_18(self):
        self.assert_both_ways(13, ("same", "x", "y", P), ("same", "y", "x", P))
        self.assert_both_ways(13, ("same", "x", "x", P), ("same", "x", "x", P))
        self.assert_both_ways(14, ("same", "x", "y", ("either", P, Q)), ("either", ("same", "x", "y", P), ("same", "x", "y", Q)))
        self.assert_refused(("same", "x", "x", ("either", P, Z)), ((), 14, 0))
        self.assert_refused(("same", "x", "x", ("either", Z, P)), ((), 14, 0))
        self.assert_refused(("same", "x", "y", ("either", P, X)), ((), 14, 0))
        self.assert_refused(("either", ("same", "x", "y", P), ("same", "y", "x", Q)), ((), 14, 1))
        self.assert_both_ways(15, ("same", "x", "y", ("join", P, Z)), ("join", ("same", "x", "y", P), Z))
        self.assert_refused(("same", "x", "y", ("join", Z, P)), ((), 15, 0))
        self.assert_refused(("same", "x", "z", ("join", P, Z)), ((), 15, 0))
        self.assert_both_ways(16, ("same", "x", "x", ("only", ("x",), P)), ("only", ("x",), ("same", "x", "x", P)))
        self.assert_refused(("only", ("x",), ("same", "x", "y", P)), ((), 16, 1))
        self.assert_refused(("only", ("y",), ("same", "x", "y", P)), ((), 16, 1))
        self.assert_both_ways(17, ("same", "x", "y", ("without", P, Q)), ("without", ("same", "x", "y", P), Q))
        self.assert_refused(("without", P, ("same", "x", "y", Q)), ((), 17, 1))
        self.assert_both_ways(18, ("same", "x", "y", ("same", "y", "y", P)), ("same", "y", "y", ("same", "x", "y", P)))

    def test_19(self):
        self.assert_both_ways(19, ("join", ("without", P, Q), Z), ("without", ("join", P, Z), ("join", Q, Z)))
        self.assert_refused(("without", ("join", P, Z), ("join", Z, Q)), ((), 19, 1))
        self.assert_refused(("without", ("join", P, X), ("join", X, ("join", P, X))), ((), 19, 1))
        self.assert_refused(("join", Z, ("without", P, Q)), ((), 19, 0))

    def test_at_each_path(self):
        plan = ("join", ("only", ("x",), ("same", "x", "y", ("join", P, Q))), ("either", Z, ("without", Z, Z)))
        self.assertEqual(moved(plan, ((0, 0, 0), 0, 0)),
                         ("join", ("only", ("x",), ("same", "x", "y", ("join", Q, P))), plan[2]))
        self.assertEqual(moved(plan, ((1,), 2, 0)), ("join", plan[1], ("either", ("without", Z, Z), Z)))
        self.assertEqual(moved(plan, ((1, 1, 1), 7, 1)),
                         ("join", plan[1], ("either", Z, ("without", Z, ("only", ("z",), Z)))))
        self.assert_refused(plan, ((2,), 0, 0), ((0, 1), 7, 1), ((0, 0, 0, 0, 0), 7, 1), ((-1,), 2, 0), ((1, 2), 7, 1),
                            ((1, 0, 0), 7, 1), ((1,), 0, 0), ((10 ** 39,), 0, 0), ((0,) * 1900, 7, 1))

    def test_what_is_no_move(self):
        plan = ("join", P, Q)
        self.assertEqual(moved(plan, ((), 0, 0)), ("join", Q, P))
        self.assert_refused(plan, None, (), ((), 0), ((), 0, 0, 0), [(), 0, 0], ([], 0, 0), ((), 20, 0), ((), -1, 0), ((), 0, 2),
                            ((), 0, -1), ((), False, 0), ((), 0, False), ((), 0, True), ((), True, 0), ((), "0", 0), ((), 0, None),
                            ((), None, 0), (None, 0, 0), (0, 0, 0), ("", 0, 0), ((), 10 ** 39, 0), ((), (0,), 0), ((), 0, (0,)),
                            ((False,), 7, 1), ((True,), 7, 1), ((None,), 7, 1), (("0",), 7, 1), (((0,),), 7, 1), ((), -20, 0))

    def test_moves_of_any_kind(self):
        numbers = random.Random(210)
        plan = ("only", ("x",), ("join", P, ("either", Q, Q)))
        known = {frozen(move): done(plan, move) for move in all_moves(plan)}
        things = [*odd_things(), Table([], []), Unread(0), plan, b"a"]
        for move in all_moves(plan):
            things += variants(move, numbers)[:6]
        for thing in things:
            before = frozen((plan, thing))
            expected = known.get(frozen(thing))
            if expected is None:
                self.assert_refused(plan, thing)
            else:
                self.assertEqual(moved(plan, thing), expected)
            self.assertEqual(frozen((plan, thing)), before)

    def test_twelve_forms_and_thirteen(self):
        plan = ("either", ("either", ("either", P, P), ("either", P, P)), ("either", P, P))
        self.assertEqual(len(walked(plan)), 11)
        twelve = moved(plan, ((0, 0, 0), 7, 1))
        self.assertEqual(len(walked(twelve)), 12)
        self.assert_refused(twelve, ((), 7, 1), ((0, 0, 1), 7, 1), ((1,), 8, 1), ((0,), 9, 1))
        self.assert_refused(plan, ((0, 0, 0), 9, 1))
        self.assertEqual(len(walked(moved(twelve, ((), 2, 0)))), 12)
        ten = ("only", ("x", "y"), ("either", ("either", ("either", P, P), P), ("either", P, P)))
        self.assertEqual(len(walked(moved(ten, ((0, 0, 0, 0), 8, 1)))), 12)

    def test_six_within_one_another_and_seven(self):
        plan = P
        for many in range(2, 7):
            plan = moved(plan, ((), 7, 1))
            self.assertEqual(deep(plan), many)
        self.assert_refused(plan, ((), 7, 1), ((0,) * 5, 7, 1), ((0,) * 5, 8, 1), ((0,) * 5, 9, 1), ((), 8, 1))
        self.assertEqual(deep(moved(plan, ((), 6, 0))), 5)
        crooked = ("join", ("join", ("join", ("join", ("join", X, X), X), X), X), X)
        self.assertEqual(deep(crooked), 6)
        self.assertEqual(deep(moved(crooked, ((), 1, 0))), 5)
        other = ("join", ("join", X, X), ("join", X, ("join", X, ("join", X, ("only", ("x",), X)))))
        self.assertEqual(deep(other), 6)
        self.assert_refused(other, ((), 1, 0))

    def test_four_names_and_five(self):
        four = ("join", ("only", ("x",), P), ("only", ("v",), ("pattern", read("<v:><w:>"))))
        self.assertEqual(names_in(moved(four, ((), 12, 1))[2]), ("v", "w", "x", "y"))
        five = ("join", ("only", ("x",), P), ("only", ("v",), ("pattern", read("<v:><w:><z:>"))))
        self.assert_refused(five, ((), 12, 1))
        self.assertEqual(names_in(moved(("either", *four[1:]), ((), 5, 1))[2]), ("v", "w", "x", "y"))
        self.assert_refused(("either", *five[1:]), ((), 5, 1))

    def test_led(self):
        plan = ("join", P, ("either", Q, R))
        self.assertEqual(led(plan, []), plan)
        self.assertEqual(led(P, []), P)
        moves = [((), 4, 0), ((), 2, 0), ((1,), 0, 0)]
        self.assertEqual(led(plan, moves), ("either", ("join", P, R), ("join", Q, P)))
        self.assertEqual(led(plan, tuple(moves)), ("either", ("join", P, R), ("join", Q, P)))
        self.assertEqual(moves, [((), 4, 0), ((), 2, 0), ((1,), 0, 0)])
        for thing in (None, 0, [()], [None]):
            self.assertRaises(NoMove, led, plan, thing)
        for at in range(4):
            for wrong in (None, ((), 6, 1), ((), 20, 0), [(), 7, 1], ((5,), 7, 1)):
                self.assertRaises(NoMove, led, plan, moves[:at] + [wrong] + moves[at:])

    def test_a_move_that_is_refused_behind_others(self):
        self.assertRaises(NoMove, led, P, [((), 7, 1)] * 6)
        self.assertEqual(deep(led(P, [((), 7, 1)] * 5)), 6)

    def test_all_moves_of_plans_by_chance(self):
        numbers = random.Random(211)
        many = {True: 0, False: 0}
        for _ in range(60):
            plan = some_plan(numbers, numbers.randint(1, 5))
            for move in all_moves(plan):
                expected = done(plan, move)
                if expected is None:
                    self.assert_refused(plan, move)
                else:
                    self.assertEqual(moved(plan, move), expected, (plan, move))
                many[expected is not None] += 1
        self.assertGreater(min(many.values()), 500, many)

    def test_each_rule_forth_and_back_means_the_same(self):
        numbers = random.Random(212)
        for rule in range(20):
            for back in (0, 1):
                kinds = {True: 0, False: 0}
                for _ in range(40):
                    plan, path = sided_plan(numbers, rule, back)
                    self.assertIs(plain_fault(plan), None)
                    expected = done(plan, (path, rule, back))
                    kinds[expected is not None] += 1
                    if expected is None:
                        self.assert_refused(plan, (path, rule, back))
                        continue
                    other = moved(plan, (path, rule, back))
                    self.assertEqual(other, expected, (plan, path, rule, back))
                    self.assertIs(fault_of(other), None)
                    self.assertEqual(names_in(other), names_in(plan))
                    if kinds[True] < 6:
                        self.assertIs(parted(plan, other, most=2), None, (plan, path, rule, back))
                self.assertGreater(kinds[True], 4 if (rule, back) != (6, 1) else -1, (rule, back, kinds))

    def test_led_by_chance(self):
        numbers = random.Random(213)
        for _ in range(25):
            plan = some_plan(numbers, 4)
            moves, here = [], plan
            while len(moves) < 5:
                move = numbers.choice(all_moves(here))
                if done(here, move) is not None:
                    moves.append(move)
                    here = done(here, move)
            self.assertEqual(led(plan, moves), here)
            self.assertIs(parted(plan, here, most=2), None)


if __name__ == "__main__":
    unittest.main()
