"""[36], [37], [38]: desks."""

import random
import unittest

from markpieces.desk import BACKS, LINES, Desk
from markpieces.errors import Busy, Foreign, NothingBack, Outside, PieceError, TooLong, Unsound
from markpieces.meaning import meaning
from markpieces.read import read
from markpieces.tables import Table
from tests.helpers import SIGNS, plain_fault, told
from tests.rulebook import some_plan

WORDS = ("pattern", read("(.* )?<x:[^ ]+>( .*)?"))
LAST = ("pattern", read(".* <y:[^ ]+>"))
TWICE = ("same", "x", "y", ("join", WORDS, LAST))
PIECE = ("pattern", read(".*<x:ab*>.*"))


def fields(error):
    """What a refusal bears."""
    return (type(error).__name__, tuple(sorted(vars(error).items())))


def refusal(deed):
    """The refusal that comes, as what it bears; None where none does."""
    try:
        deed()
    except PieceError as error:
        return fields(error)
    return None


class Desks(unittest.TestCase):
    def assert_at(self, desk, text, plan):
        """The desk holds this text, with the table of reading it anew."""
        table = meaning(plan, text)
        self.assertEqual((desk.shows(), len(desk)), (text, len(text)))
        self.assertEqual(desk.table(), table)
        self.assertEqual(str(desk), f"{text}\n{table}")

    def between(self, plan, one, other):
        """(gone, come) by the words."""
        rows, others = meaning(plan, one).rows, meaning(plan, other).rows
        names = meaning(plan, one).names
        return (told(set(rows) - set(others), names), told(set(others) - set(rows), names))


class Whole(Desks):
    def test_a_new_desk(self):
        self.assert_at(Desk(PIECE), "", PIECE)
        self.assert_at(Desk(TWICE, text="ab c ab"), "ab c ab", TWICE)
        self.assertEqual(str(Desk(TWICE, text="ab c ab")), "ab c ab\nx y\n0-2 5-7\n5-7 5-7")
        self.assertEqual(str(Desk(("pattern", read("a*")))), "\n\n")
        self.assertEqual(Desk(PIECE).log(), ())
        self.assertRaises(TypeError, Desk, PIECE, "ab")

    def test_two_hundred_signs(self):
        text = "ab b" * 50
        desk = Desk(PIECE, text=text)
        self.assert_at(desk, text, PIECE)
        self.assertEqual(desk.edit(200), ((), ()))
        desk.edit(100, cut=100, put="b" * 100)
        self.assert_at(desk, text[:100] + "b" * 100, PIECE)

    def test_unsound(self):
        idle, twice = ("pattern", read("(a?)*")), ("pattern", read("<x:a><x:b>"))
        for plan in (idle, twice, ("join", PIECE, idle), ("without", PIECE, LAST), ("only", ("y",), PIECE),
                     ("either", ("same", "x", "z", PIECE), twice), ("only", ("x",), ("join", twice, idle)),
                     ("join", ("pattern", read("<a:><b:><c:>")), ("pattern", read("<d:><e:>")))):
            path, why = plain_fault(plan)
            with self.assertRaises(Unsound) as caught:
                Desk(plan, text="ab")
            self.assertEqual((caught.exception.path, caught.exception.why), (path, why))

    def test_equal(self):
        one, other = Desk(PIECE, text="ab"), Desk(PIECE)
        self.assertFalse(one == other)
        other.edit(0, put="ab")
        self.assertTrue(one == other)
        self.assertFalse(one != other)
        self.assertTrue(Desk(PIECE) == Desk(("pattern", read(".*<x:ab*>.*"))))
        self.assertFalse(Desk(PIECE) == Desk(WORDS))
        for thing in (PIECE, "ab", None, 0, one.table(), one.shows(), [one], str(one)):
            self.assertIs(one == thing, False)
            self.assertIs(one != thing, True)

    def test_what_is_told_is_made_for_that_answer_alone(self):
        desk = Desk(PIECE, text="ab")
        desk.table().rows = ()
        desk.table().names = ("y",)
        self.assert_at(desk, "ab", PIECE)
        self.assertEqual(desk.edit(2, put="b")[0], ())
        table = desk.table()
        desk.edit(0, cut=3)
        self.assertEqual(table, meaning(PIECE, "abb"))

    def test_two_desks_share_nothing(self):
        one, other = Desk(PIECE, text="ab"), Desk(PIECE, text="ab")
        one.edit(0, put="b")
        one.tried([])
        self.assertRaises(NothingBack, other.back)
        self.assertEqual(other.log(), ())
        self.assert_at(other, "ab", PIECE)

        def tell(text):
            other.edit(0, put="c")
        one.tried([(0, 0, "a")], tell=tell)
        self.assertEqual((one.shows(), other.shows()), ("abab", "cab"))


class Edits(Desks):
    def test_an_edit(self):
        desk = Desk(PIECE, text="ab")
        self.assertEqual(desk.edit(1, put="a"), ((((0, 2),),), (((1, 2),), ((1, 3),))))
        self.assert_at(desk, "aab", PIECE)
        self.assertEqual(desk.edit(0, cut=1), self.between(PIECE, "aab", "ab"))
        self.assertEqual(desk.edit(0, cut=2, put="cab"), self.between(PIECE, "ab", "cab"))
        self.assertEqual(desk.edit(3, cut=0, put=" a"), self.between(PIECE, "cab", "cab a"))
        self.assert_at(desk, "cab a", PIECE)
        self.assertRaises(TypeError, desk.edit, 0, 1)

    def test_one_that_changes_nothing(self):
        desk = Desk(PIECE, text="ab")
        for edit in ({"at": 0}, {"at": 2}, {"at": 1, "cut": 1, "put": "b"}, {"at": 0, "cut": 2, "put": "ab"}):
            self.assertEqual(desk.edit(edit.pop("at"), **edit), ((), ()))
            self.assert_at(desk, "ab", PIECE)
        for _ in range(4):
            self.assertEqual(desk.back(), ((), ()))
        self.assertRaises(NothingBack, desk.back)

    def test_outside(self):
        for text in ("", "abc"):
            desk = Desk(PIECE, text=text)
            length = len(text)
            for at, cut in ((-1, 0), (0, -1), (length + 1, 0), (length, 1), (0, length + 1), (length + 1, -1), (-1, 1), (10 ** 9, 0),
                            (0, 10 ** 9), (length, -1)):
                for put in ("", "a", "A", "a" * 300):
                    self.assertEqual(refusal(lambda: desk.edit(at, cut=cut, put=put)), fields(Outside(at, cut)))
                    self.assertEqual(refusal(lambda: desk.tried([(at, cut, put)])), fields(Outside(at, cut)))
            self.assert_at(desk, text, PIECE)
            self.assertRaises(NothingBack, desk.back)

    def test_too_long(self):
        plan = ("pattern", read("a*b?<x:b>a*"))
        desk = Desk(plan, text="a" * 199)
        self.assertEqual(desk.edit(100, put="b")[1], (((100, 101),),))
        self.assert_at(desk, "a" * 100 + "b" + "a" * 99, plan)
        for at, cut, put, length in ((0, 0, "a", 201), (0, 0, "A", 201), (200, 0, "aa", 202), (0, 1, "aa", 201), (0, 200, "-" * 201, 201),
                                     (5, 5, "a" * 400, 595)):
            self.assertEqual(refusal(lambda: desk.edit(at, cut=cut, put=put)), fields(TooLong(length)))
            self.assertEqual(refusal(lambda: desk.tried([(at, cut, put)])), fields(TooLong(length)))
        self.assert_at(desk, "a" * 100 + "b" + "a" * 99, plan)
        desk.edit(0, cut=200, put="b" * 200)
        self.assertEqual(len(desk), 200)
        desk.back()
        desk.back()
        self.assertRaises(NothingBack, desk.back)

    def test_foreign(self):
        desk = Desk(PIECE, text="ab")
        for sign in "ABZ0-.\n~\t\u00e9{`@[" + "\u0131":
            for place in (0, 1, 5):
                put = "a b" * 2
                put = put[:place] + sign + put[place:] + sign
                self.assertEqual(refusal(lambda: desk.edit(1, put=put)), fields(Foreign(place)))
                self.assertEqual(refusal(lambda: desk.tried([(1, 1, put)])), fields(Foreign(place)))
        self.assert_at(desk, "ab", PIECE)
        desk.edit(0, put=SIGNS)
        self.assert_at(desk, SIGNS + "ab", PIECE)

    def test_back(self):
        desk = Desk(PIECE, text="ab")
        self.assertRaises(NothingBack, desk.back)
        desk.edit(0, put="ab")
        desk.edit(1, cut=2)
        self.assertEqual(desk.back(), self.between(PIECE, "ab", "abab"))
        self.assert_at(desk, "abab", PIECE)
        desk.edit(4, put="b")
        self.assertEqual(desk.back(), self.between(PIECE, "ababb", "abab"))
        self.assertEqual(desk.back(), self.between(PIECE, "abab", "ab"))
        self.assertRaises(NothingBack, desk.back)
        self.assertRaises(NothingBack, desk.back)
        self.assert_at(desk, "ab", PIECE)

    def test_forty_edits_undone_and_forty_one(self):
        self.assertEqual((BACKS, LINES), (40, 6))
        for many in (40, 41, 95):
            desk = Desk(PIECE)
            for k in range(many):
                desk.edit(k, put="ab"[k % 2])
            for k in range(many - 1, many - 41, -1):
                desk.back()
                self.assertEqual(len(desk), k)
            self.assertRaises(NothingBack, desk.back)
            self.assert_at(desk, ("ab" * 100)[:many - 40], PIECE)

    def test_refused_edits_do_not_stand(self):
        desk = Desk(PIECE)
        desk.edit(0, put="a")
        for k in range(50):
            self.assertRaises(Outside, desk.edit, 5)
            self.assertRaises(Outside, desk.tried, [(0, 0, "b"), (9, 0, "")])
        desk.back()
        self.assert_at(desk, "", PIECE)
        self.assertRaises(NothingBack, desk.back)


class Tried(Desks):
    def test_all_of_them(self):
        for kind in (list, tuple):
            desk = Desk(PIECE, text="ab")
            edits = kind([(0, 0, "ab"), (1, 2, ""), (2, 0, "b")])
            self.assertEqual(desk.tried(edits), self.between(PIECE, "ab", "abb"))
            self.assert_at(desk, "abb", PIECE)
            self.assertEqual(edits, kind([(0, 0, "ab"), (1, 2, ""), (2, 0, "b")]))
            self.assertEqual(desk.log(), (("begin", 3), ("end", 3)))
            self.assertEqual(desk.back(), self.between(PIECE, "abb", "ab"))
            self.assert_at(desk, "ab", PIECE)
            self.assertRaises(NothingBack, desk.back)
            self.assertRaises(TypeError, desk.tried, edits, print)

    def test_none_at_all_is_one_edit_to_back(self):
        for edits in ([], ()):
            desk = Desk(PIECE, text="ab")
            desk.edit(0, cut=1)
            seen = []
            self.assertEqual(desk.tried(edits, tell=seen.append), ((), ()))
            self.assertEqual((seen, desk.log()), ([], (("begin", 0), ("end", 0))))
            self.assertEqual(desk.back(), ((), ()))
            self.assert_at(desk, "b", PIECE)
            desk.back()
            self.assert_at(desk, "ab", PIECE)

    def test_refused_at_the_first_and_at_the_last_edit(self):
        good = [(0, 0, "ab"), (1, 1, "a")]
        for bad, told_of in (((9, 0, ""), Outside(9, 0)), ((0, 0, "a" * 199), TooLong), ((0, 0, "aB"), Foreign(1)),
                             ((0, -1, "B"), Outside(0, -1))):
            for at in range(3):
                desk = Desk(PIECE, text="ab")
                desk.edit(2, put="b")
                seen = []
                with self.assertRaises(PieceError) as caught:
                    desk.tried(good[:at] + [bad] + good[at:], tell=seen.append)
                error = told_of(202 + min(at, 1) * 2) if told_of == TooLong else told_of
                self.assertEqual(fields(caught.exception), fields(error))
                self.assertEqual(seen, ["ababb", "aaabb"][:at])
                self.assert_at(desk, "abb", PIECE)
                self.assertEqual(desk.log(), (("begin", 3), ("end", 0)))
                desk.back()
                self.assert_at(desk, "ab", PIECE)
                self.assertRaises(NothingBack, desk.back)

    def test_each_edit_is_of_the_text_as_it_is_then(self):
        desk = Desk(PIECE)
        desk.tried([(0, 0, "a"), (1, 0, "b"), (2, 0, "c"), (0, 3, "")])
        self.assertEqual(desk.shows(), "")
        self.assertRaises(Outside, desk.tried, [(0, 0, "a"), (2, 0, "b")])
        desk.tried([(0, 0, "a" * 200), (0, 200, "b" * 200)])
        self.assertRaises(TooLong, desk.tried, [(0, 0, "a"), (0, 1, "")])
        self.assertEqual(desk.shows(), "b" * 200)

    def test_tell_is_called_behind_each_and_may_ask_all_else(self):
        desk = Desk(PIECE, text="ab")
        seen = []

        def tell(text):
            self.assert_at(desk, text, PIECE)
            self.assertTrue(desk == Desk(PIECE, text=text))
            self.assertEqual(desk.log()[-1], ("begin", 3))
            seen.append(text)
        self.assertEqual(desk.tried([(0, 0, "c"), (0, 1, ""), (2, 0, "b")], tell=tell), self.between(PIECE, "ab", "abb"))
        self.assertEqual(seen, ["cab", "ab", "abb"])
        self.assertEqual(desk.log(), (("begin", 3), ("end", 3)))

    def test_edit_back_and_tried_are_refused_within_tell(self):
        desk = Desk(PIECE, text="ab")
        desk.edit(0, put="b")
        met = []

        def tell(text):
            for deed in (lambda: desk.edit(0, put="a"), lambda: desk.edit(-1), lambda: desk.edit(0, put="A" * 400), desk.back,
                         lambda: desk.tried([]), lambda: desk.tried([(-1, 0, "")], tell=tell)):
                met.append(refusal(deed))
            self.assertEqual(desk.shows(), text)
            self.assertEqual(desk.log(), (("begin", 2),))
        desk.tried([(0, 0, "a"), (0, 0, "b")], tell=tell)
        self.assertEqual(met, [fields(Busy())] * 12)
        self.assert_at(desk, "babab", PIECE)
        self.assertEqual(desk.log(), (("begin", 2), ("end", 2)))
        desk.back()
        self.assert_at(desk, "bab", PIECE)

    def test_tell_that_raises(self):
        for error in (ValueError, KeyError, StopIteration, KeyboardInterrupt, Busy):
            for at in range(3):
                desk = Desk(PIECE, text="ab")
                desk.edit(2, put="b")
                seen = []

                def tell(text):
                    seen.append(desk.table())
                    if len(seen) == at + 1:
                        raise error()
                self.assertRaises(error, desk.tried, [(0, 0, "a"), (0, 0, "b"), (0, 3, "")], tell=tell)
                self.assertEqual(len(seen), at + 1)
                self.assert_at(desk, "abb", PIECE)
                self.assertEqual(desk.log(), (("begin", 3), ("end", 0)))
                self.assertEqual(desk.edit(0, cut=1), self.between(PIECE, "abb", "bb"))
                desk.back()
                desk.back()
                self.assert_at(desk, "ab", PIECE)

    def test_a_refusal_that_goes_through_tell(self):
        desk = Desk(PIECE, text="ab")
        self.assertRaises(Busy, desk.tried, [(0, 0, "a")], tell=lambda text: desk.back())
        self.assert_at(desk, "ab", PIECE)
        self.assertEqual(desk.log(), (("begin", 1), ("end", 0)))
        desk.edit(0, put="a")

    def test_tell_that_changes_the_handed_list(self):
        edits = [(0, 0, "a"), (0, 0, "b"), (0, 0, "c")]
        desk = Desk(PIECE)
        desk.tried(edits, tell=lambda text: edits.clear() or edits.append((-1, 0, "")))
        self.assertEqual(desk.shows(), "cba")
        self.assertEqual(desk.log(), (("begin", 3), ("end", 3)))

    def test_the_log_has_the_last_six(self):
        desk = Desk(PIECE)
        expected = []
        for many in (1, 2, 0, 3, 1, 2, 5):
            refused = many in (3, 5)
            edits = [(0, 0, "a")] * (many - refused) + [(-1, 0, "")] * refused
            if refused:
                self.assertRaises(Outside, desk.tried, edits, tell=lambda text: self.assertEqual(
                    desk.log(), tuple((expected + [("begin", many)])[-6:])))
            else:
                desk.tried(edits, tell=lambda text: self.assertEqual(desk.log(), tuple((expected + [("begin", many)])[-6:])))
            expected += [("begin", many), ("end", 0 if refused else many)]
            self.assertEqual(desk.log(), tuple(expected[-6:]))
            desk.edit(0, put="b")
            desk.back()
            self.assertEqual(desk.log(), tuple(expected[-6:]))
        self.assertEqual(len(desk.log()), LINES)

    def test_forty_rows_of_edits_undone(self):
        desk = Desk(PIECE)
        for k in range(45):
            desk.tried([(0, 0, "a"), (1, 0, "b"), (0, 1, "")])
        for k in range(40):
            desk.back()
        self.assertEqual(desk.shows(), "b" * 5)
        self.assertRaises(NothingBack, desk.back)


class Chance(Desks):
    def test_whatever_deeds(self):
        numbers = random.Random(230)
        for _ in range(25):
            plan = some_plan(numbers, numbers.randint(1, 4))
            text = "".join(numbers.choice("ab ") for _ in range(numbers.randint(0, 5)))
            desk = Desk(plan, text=text)
            earlier = []
            for _ in range(25):
                before = desk.shows()
                deed = numbers.choice(("edit", "edit", "tried", "back"))
                edits = [self.chance_edit(numbers, before) for _ in range(1 if deed == "edit" else numbers.randint(0, 3))]
                if deed == "back" and not earlier:
                    self.assertRaises(NothingBack, desk.back)
                    continue
                after, refused = self.all_done(before, edits)
                if deed == "back":
                    after, refused = earlier.pop(), None
                    found = desk.back()
                elif refused is not None:
                    at, cut, put = edits[0]
                    wrong = (lambda: desk.edit(at, cut=cut, put=put)) if deed == "edit" else (lambda: desk.tried(edits))
                    self.assertEqual(refusal(wrong), refused)
                    self.assert_at(desk, before, plan)
                    continue
                else:
                    earlier.append(before)
                    at, cut, put = (edits or [(0, 0, "")])[0]
                    found = desk.edit(at, cut=cut, put=put) if deed == "edit" else desk.tried(edits)
                self.assertEqual(found, self.between(plan, before, after))
                self.assert_at(desk, after, plan)

    def chance_edit(self, numbers, text):
        at = numbers.randint(0, max(0, min(len(text), 6)))
        cut = numbers.randint(0, 2) if numbers.random() < 0.5 else len(text) - at
        return (at, cut, "".join(numbers.choice("aab ") for _ in range(numbers.randint(0, 2))))

    def all_done(self, text, edits):
        """The text behind the edits, by the words, and what the first refusal bears."""
        for at, cut, put in edits:
            if at < 0 or cut < 0 or at + cut > len(text):
                return text, fields(Outside(at, cut))
            text = text[:at] + put + text[at + cut:]
        return text, None

    def test_tables_of_rows_as_many_as_are_asked_for(self):
        plan = ("pattern", read(".*<x:.*>.*"))
        desk = Desk(plan, text="ab" * 30)
        self.assertEqual(len(desk.table()), 1891)
        gone, come = desk.edit(60, put="a")
        self.assertEqual((len(gone), len(come)), (0, 62))
        self.assertEqual(desk.back(), (come, ()))
        self.assertIsInstance(desk.table(), Table)


if __name__ == "__main__":
    unittest.main()
