"""[32]: two machines are alike, or parted by a shortest text."""

import random
import unittest

from markpieces.alike import alike
from markpieces.deeds import choice
from markpieces.errors import Unlike
from markpieces.likeness import alike_holds, part_holds
from markpieces.made import made
from markpieces.read import read
from tests.helpers import SIGNS, frozen, texts
from tests.machinery import chance_machine, told_rows

BOTH = (("x", 0), ("x", 1))


def of(text):
    return made(read(text))


def ring(count, ends, first=0):
    """A machine without names that goes round by a, with these ends."""
    return ((), ((),) * count, (first,), tuple(ends), (), tuple((k, "a", (k + 1) % count) for k in range(count)))


class Alike(unittest.TestCase):
    def assert_alike(self, one, other):
        """What is told is let by; tells None, or the text that parts them."""
        before = frozen((one, other))
        found = alike(one, other)
        self.assertEqual(frozen((one, other)), before)
        self.assertEqual(alike(one, other), found)
        self.assertIs(type(found), tuple)
        if found[0] == "alike":
            self.assertEqual(len(found), 2)
            self.assertIs(alike_holds(one, other, found[1]), True)
            return None
        self.assertEqual(found[0], "parted")
        self.assertIs(part_holds(one, other, found[1:]), True, found)
        return found[1]

    def test_alike_by_other_states(self):
        for one, other in (("<x:a*>", "<x:|a+>"), ("(a|b)*", "[ab]*"), ("<x:>|<x:a>", "<x:a?>"),
                           ("a*<x:>a*", "<x:>a*|a+<x:>a*"), ("aa*", "a+"), ("(<x:a>)?", "<x:a>|")):
            one, other = of(one), of(other)
            self.assertIs(self.assert_alike(one, other), None)
            self.assertIs(self.assert_alike(other, one), None)
        self.assertIs(self.assert_alike(ring(2, (0,)), ring(4, (0, 2))), None)
        self.assertIs(self.assert_alike(ring(2, (0,)), ring(4, (1, 3), 1)), None)
        self.assertIs(self.assert_alike(ring(1, (0,)), ring(5, range(5))), None)

    def test_machines_that_tell_nothing(self):
        nothing = (("x",), ((0,),), (), (), (), ())
        still = (("x",), ((0,), (2,)), (0,), (1,), (), ((0, "ab", 0),))
        no_end = (("x",), ((0,), (2,)), (0,), (), ((0, BOTH, 1),), ((0, "ab", 0), (1, "b", 1)))
        for one in (nothing, still, no_end):
            for other in (nothing, still, no_end):
                self.assertIs(self.assert_alike(one, other), None)
            self.assertEqual(self.assert_alike(one, of("<x:a>")), "a")
            self.assertEqual(self.assert_alike(of("<x:a>"), one), "a")

    def test_parted_by_the_empty_text_only(self):
        self.assertEqual(alike(of("a*"), of("a+")), ("parted", "", (), 0))
        self.assertEqual(alike(of("a+"), of("a*")), ("parted", "", (), 1))
        self.assertEqual(alike(of("<x:>|<x:a>"), of("<x:a>")), ("parted", "", ((0, 0),), 0))
        self.assertEqual(alike(of("<x:a>|"), of("<x:a?>|<x:a>"))[1], "")

    def test_parted_by_marks(self):
        self.assertEqual(self.assert_alike(of("<x:a>b"), of("a<x:b>")), "ab")
        self.assertEqual(self.assert_alike(of("<x:a>|<x:>a"), of("<x:a>")), "a")
        self.assertEqual(alike(of("<x:a>|a"), of("<x:a>")), ("parted", "a", (None,), 0))
        self.assertEqual(alike(of("<x:a><y:b>"), of("<x:a<y:b>>"))[0], "parted")

    def test_parted_by_texts_longer_than_either_has_states(self):
        self.assertEqual(self.assert_alike(ring(5, range(4)), ring(1, (0,))), "aaaa")
        self.assertEqual(self.assert_alike(ring(5, (0,)), ring(4, (0,))), "aaaa")
        # The one has not 4, 9, 14 .., the others not 4, 8, 12 .. and not 4, 7, 10 ..
        for back in (1, 2, 3):
            other = (*ring(5, range(4))[:5], (*ring(5, range(4))[5][:4], (4, "a", back)))
            self.assertEqual(self.assert_alike(ring(5, range(4)), other), "a" * (9 - back))
            self.assertEqual(self.assert_alike(other, ring(5, range(4))), "a" * (9 - back))
        late = choice(ring(2, (0,)), ring(3, (0, 1)))
        self.assertEqual(self.assert_alike(late, ring(1, (0,))), "a" * 5)
        self.assertIs(self.assert_alike(late, choice(ring(3, (0, 1)), ring(2, (0,)))), None)

    def test_each_sign_counts(self):
        one = ((), ((),), (0,), (0,), (), ((0, SIGNS, 0),))
        for sign in SIGNS:
            other = ((), ((),), (0,), (0,), (), ((0, SIGNS.replace(sign, ""), 0),))
            self.assertEqual(alike(one, other), ("parted", sign, (), 0))
            self.assertEqual(alike(other, one), ("parted", sign, (), 1))

    def test_unlike_names(self):
        for one, other, names in (("<x:a>", "a", ("x",)), ("a", "<x:a>", ("x",)), ("<x:a><y:a>", "<y:a><z:a>", ("x", "z")),
                                  ("<b:a>", "<a:a>", ("a", "b"))):
            with self.assertRaises(Unlike) as caught:
                alike(of(one), of(other))
            self.assertEqual(caught.exception.names, names)

    def test_by_chance(self):
        numbers = random.Random(201)
        kinds = {}
        for _ in range(400):
            names = ("x", "y")[:numbers.randint(0, 2)]
            one = chance_machine(numbers, names, most=numbers.randint(1, 5), moves=12)
            other = chance_machine(numbers, names, most=numbers.randint(1, 5), moves=12)
            if numbers.random() < 0.5:
                other = (*one[:4], *numbers.choice(((one[4][:-1], one[5]), (one[4], one[5][:-1]), (one[4], one[5]))))
            found = self.assert_alike(one, other)
            length = None if found is None else len(found)
            kinds[length] = kinds.get(length, 0) + 1
            for text in texts("ab", 4 if found is None else min(4, len(found) - 1)):
                self.assertEqual(told_rows(one, text), told_rows(other, text), (one, other, text))
        for length in (None, 0, 1, 2):
            self.assertGreater(kinds.get(length, 0), 2, kinds)

    def test_five_states_that_lead_everywhere(self):
        stands = ((),) * 5
        numbers = random.Random(202)
        for _ in range(40):
            machines = []
            for _ in range(2):
                reads = {(a, sign, b) for a in range(5) for b in range(5) for sign in "abcdefgh" if numbers.random() < 0.3}
                steps = {(a, (), b) for a in range(5) for b in range(5) if numbers.random() < 0.2}
                machines.append(((), stands, (0, 1), (3, 4), tuple(sorted(steps)), tuple(sorted(reads))))
            self.assert_alike(*machines)
            self.assertIs(self.assert_alike(machines[0], machines[0]), None)


if __name__ == "__main__":
    unittest.main()
