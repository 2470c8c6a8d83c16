"""[20], [21]: what plans mean, and where two of them part."""

import random
import unittest

from markpieces.errors import Unlike
from markpieces.meaning import LONGEST, SOME, meaning, parted
from markpieces.plans import fault_of, names_in
from markpieces.read import read
from markpieces.tables import Table
from tests.helpers import chance_plan, few_ways, frozen, plain_order, sound_patterns, texts, ways_by_row


def of(text):
    """The plan of a pattern that is told by its text."""
    return ("pattern", read(text))


def plain_meaning(plan, text):
    """A list of {name: piece} for the rows, by the words of [18] to [20]."""
    kind, names = plan[0], names_in(plan)
    if kind == "pattern":
        return [dict(zip(names, row)) for row in ways_by_row(plan[1], text)]
    one = plain_meaning(plan[-1] if kind in ("only", "same") else plan[1], text)
    if kind == "only":
        return unlike({name: row[name] for name in names} for row in one)
    if kind == "same":
        left, right = plan[1:3]
        return [row for row in one if row[left] and row[right] and text[slice(*row[left])] == text[slice(*row[right])]]
    other = plain_meaning(plan[2], text)
    if kind == "join":
        return unlike({**row, **more} for row in one for more in other if all(row[n] == more[n] for n in row if n in more))
    if kind == "either":
        return unlike({name: row.get(name) for name in names} for row in one + other)
    return [row for row in one if row not in other]


def base_patterns(seed):
    """Sound patterns with few ways, of the names x and y at most."""
    found = [p for p in sound_patterns(seed, 30, depth=4, names="xy", signs="ab") if few_ways(p, "abab", 60)]
    more = ("<x:.*><y:.*>", ".*<x:.>.*", "<x:a*>.*<y:b*>", "(<x:a>|<y:b>|.).*", "<x:.>.*<y:.>", ".*<y:.*>", "<x:a>?.*",
            ".*(<x:.><y:.>|<x:>)?")
    return found + [read(text) for text in more]


def unlike(rows):
    found = []
    for row in rows:
        if row not in found:
            found.append(row)
    return found


def table_by_words(plan, text):
    names = names_in(plan)
    return Table(names, [tuple(row[name] for name in names) for row in plain_meaning(plan, text)])


class Meaning(unittest.TestCase):
    def test_a_pattern(self):
        table = meaning(of("<x:a*><y:a*>"), "aa")
        self.assertIsInstance(table, Table)
        self.assertEqual(table.names, ("x", "y"))
        self.assertEqual(table.rows, (((0, 1), (1, 2)), ((0, 2), (2, 2)), ((0, 0), (0, 2))))
        self.assertEqual(str(meaning(of("a"), "")), "")
        self.assertEqual(str(meaning(of("a*"), "aa")), "\n")

    def test_each_deed(self):
        words, firsts = of(".*<x:a+>.*"), of("<x:.>.*")
        self.assertEqual(str(meaning(("join", words, firsts), "aab")), "x\n0-1")
        self.assertEqual(str(meaning(("join", of("<x:.*>b.*"), of(".*b<y:.*>")), "abab")),
                         "x y\n0-1 2-4\n0-1 4-4\n0-3 2-4\n0-3 4-4")
        self.assertEqual(str(meaning(("either", words, of(".*<y:b>")), "ab")), "x y\n0-1 -\n- 1-2")
        self.assertEqual(str(meaning(("without", words, firsts), "aab")), "x\n0-2\n1-2")
        self.assertEqual(str(meaning(("only", ("y",), of("<x:.*>b<y:.*>")), "abab")), "y\n2-4\n4-4")
        self.assertEqual(str(meaning(("only", (), of("<x:.*>b<y:.*>")), "abab")), "\n")
        self.assertEqual(str(meaning(("only", (), of("<x:.*>b<y:.*>")), "aa")), "")
        self.assertEqual(str(meaning(("same", "x", "y", of("<x:.*>b<y:.*>")), "aba")), "x y\n0-1 2-3")
        self.assertEqual(str(meaning(("same", "x", "x", of("<x:a>?b")), "b")), "x")

    def test_twelve_forms_and_six_within_one_another(self):
        plan = of(".*<x:a>.*")
        for _ in range(5):
            plan = ("same", "x", "x", plan)
        self.assertEqual(meaning(plan, "ba").rows, (((1, 2),),))
        plan = ("join", of("<w:.>.*"), of(".<x:.>.*"))
        for part in (of("..<y:.>.*"), of("...<z:.>.*"), of("<w:a>.*")):
            plan = ("join", plan, part)
        plan = ("only", ("w", "z"), ("same", "x", "y", plan))
        self.assertIsNone(fault_of(plan))
        self.assertEqual(str(meaning(plan, "abbcd")), "w z\n0-1 3-4")
        self.assertEqual(str(meaning(plan, "abdcd")), "w z")

    def test_long_texts(self):
        table = meaning(("without", of("(a|a)*<x:a>(a|a)*"), of("<x:a>.*")), "a" * 200)
        self.assertEqual(len(table), 199)
        table = meaning(("join", of(".*<x:[^ ]+>( .*)?"), of("(.* )?<x:[^ ]+>.*")), "ab cd  ef " * 12)
        self.assertEqual(len(table), 36)

    def test_against_the_words(self):
        numbers = random.Random(100)
        patterns = base_patterns(101)
        rows = plans = 0
        while plans < 250:
            plan = chance_plan(numbers, numbers.choice((2, 3, 4)), patterns, "xy")
            if fault_of(plan) is None:
                plans += 1
                before = frozen(plan)
                for text in numbers.sample(texts("ab", 3), 4):
                    table = meaning(plan, text)
                    self.assertEqual(table, table_by_words(plan, text), (plan, text))
                    self.assertEqual(meaning(plan, text), table)
                    rows += len(table)
                self.assertEqual(frozen(plan), before)
        self.assertGreater(rows, 500)


class Parted(unittest.TestCase):
    def test_by_default(self):
        self.assertEqual((SOME, LONGEST), ("ab", 3))
        self.assertIsNone(parted(of("a*"), of("a*")))
        self.assertEqual(parted(of("a*"), of("a+")), ("", (), 0))
        self.assertEqual(parted(of("a+"), of("a*")), ("", (), 1))
        self.assertEqual(parted(of("aab"), of("aaa")), ("aaa", (), 1))
        self.assertIsNone(parted(of("aaaa"), of("aaab")))
        self.assertIsNone(parted(of("c"), of("d")))

    def test_the_first_row_of_just_one_of_them(self):
        self.assertEqual(parted(of("<x:a>.*"), of(".*<x:a>")), ("aa", ((0, 1),), 0))
        self.assertEqual(parted(of(".*<x:a>"), of("<x:a>.*")), ("aa", ((0, 1),), 1))
        self.assertEqual(parted(of("<x:a>|b"), of("<x:a>|b<x:>")), ("b", ((1, 1),), 1))
        self.assertEqual(parted(of("<x:a*>a*"), of("<x:a*>(a|b)*")), ("b", ((0, 0),), 1))

    def test_signs(self):
        self.assertEqual(parted(of("[cd]"), of("b"), signs="dcb"), ("b", (), 1))
        self.assertEqual(parted(of("[cd]"), of("b"), signs="dc"), ("c", (), 0))
        self.assertEqual(parted(of(" "), of("b"), signs="b "), (" ", (), 0))
        self.assertEqual(parted(of("z"), of("b"), signs="z"), ("z", (), 0))
        self.assertIsNone(parted(of("z"), of("b"), signs="xy"))

    def test_no_signs_and_no_length(self):
        self.assertIsNone(parted(of("a"), of("b"), signs=""))
        self.assertEqual(parted(of("a*"), of("b"), signs=""), ("", (), 0))
        self.assertEqual(parted(of("a*"), of("b"), signs="", most=0), ("", (), 0))
        self.assertIsNone(parted(of("a"), of("b"), most=0))
        self.assertEqual(parted(of("a"), of("b"), most=1), ("a", (), 0))

    def test_most(self):
        self.assertEqual(parted(of("abab"), of("abba"), most=4), ("abab", (), 0))
        self.assertEqual(parted(of("cabc"), of("cacb"), most=4, signs="cab"), ("cabc", (), 0))
        self.assertIsNone(parted(of("abab"), of("abba"), most=3))

    def test_unlike_names_ahead_of_all_else(self):
        for one, other, names in ((of("a"), of("<x:a>"), ("x",)), (of("<y:><a:>"), of("<x:a><a:>"), ("x", "y"))):
            for told in ({}, {"signs": ""}, {"most": 0}):
                with self.assertRaises(Unlike) as caught:
                    parted(one, other, **told)
                self.assertEqual(caught.exception.names, names)

    def test_plans_of_other_forms(self):
        plan = ("join", of(".*<x:a>.*"), of("<y:b?>.*"))
        other = ("join", of("<y:b?>.*"), of(".*<x:a>.*"))
        self.assertIsNone(parted(plan, other, most=4))
        self.assertIsNone(parted(plan, ("same", "x", "x", plan)))
        self.assertEqual(parted(("only", ("x",), plan), ("only", ("x",), ("same", "x", "y", plan))), ("a", ((0, 1),), 0))

    def test_against_going_through_all_texts(self):
        numbers = random.Random(110)
        patterns = base_patterns(111)
        found = {None: 0, 0: 0, 1: 0}
        pairs = 0
        while pairs < 150:
            one, other = [chance_plan(numbers, numbers.choice((1, 2, 3)), patterns, "xy") for _ in range(2)]
            if fault_of(one) is None and fault_of(other) is None and names_in(one) == names_in(other):
                pairs += 1
                signs, most = numbers.choice(("ab", "ba", "a", "")), numbers.choice((0, 2, 3))
                told = parted(one, other, signs=signs, most=most)
                self.assertEqual(told, self.by_words(one, other, signs, most), (one, other))
                found[told and told[2]] += 1
        self.assertGreater(min(found.values()), 10, found)

    def by_words(self, one, other, signs, most):
        for text in texts(sorted(signs), most):
            rows, others = table_by_words(one, text).rows, table_by_words(other, text).rows
            odd = sorted(set(rows) ^ set(others), key=plain_order(names_in(one)))
            if odd:
                return (text, odd[0], 0 if odd[0] in rows else 1)
        return None


if __name__ == "__main__":
    unittest.main()
