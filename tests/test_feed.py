"""[39]: a machine that is fed piece by piece."""

import random
import unittest

from markpieces.ahead import ahead
from markpieces.errors import Foreign, TooLong
from markpieces.feed import Feed
from markpieces.made import made
from markpieces.plain import rows_of
from markpieces.read import read
from tests.helpers import SIGNS, frozen, texts, told
from tests.machinery import chance_machine, told_rows

BOTH = (("x", 0), ("x", 1))


def all_told(feed):
    """All that the feed tells."""
    return (feed.fed(), len(feed), feed.sees(), feed.open_names(), feed.live())


class Feeds(unittest.TestCase):
    def assert_fed(self, feed, machine, text):
        """The feed tells all of the text as it is."""
        names = tuple(name for name in machine[0] if ahead(machine, text, name)[0] == "yes")
        rows = told(told_rows(machine, text), machine[0])
        self.assertEqual(frozen(all_told(feed)), frozen((text, len(text), rows, names, ahead(machine, text, None)[0] == "yes")))

    def test_fed_nothing(self):
        for text in ("", "a*", "<x:a*>", "<x:a>"):
            machine = made(read(text))
            feed = Feed(machine)
            self.assert_fed(feed, machine, "")
            self.assertIs(feed.feed(""), None)
            self.assert_fed(feed, machine, "")

    def test_one_sign_by_one(self):
        for text in ("a*<x:b+>(c|<y:d>)", ".*<x:b*>a", "<x:a*><y:b*>", "(<x:a>|b)a*"):
            machine = made(read(text))
            for whole in ("aabbd", "bc", "abab", "aaaa", ""):
                feed = Feed(machine)
                for at, sign in enumerate(whole):
                    feed.feed(sign)
                    self.assert_fed(feed, machine, whole[:at + 1])

    def test_names_that_are_open(self):
        feed = Feed(made(read("a*<x:b+>(c|<y:d>)")))
        expected = (("x", "y"), ("x", "y"), ("x", "y"), ("x",), ())
        for sign, names in zip("aabcc", expected):
            feed.feed(sign)
            self.assertEqual((feed.open_names(), feed.live()), (names, names != ()))
        feed = Feed(made(read("<y:a>?b*<x:c>?|d*")))
        for sign, names, live in (("b", ("x",), True), ("c", ("x",), True), ("c", (), False)):
            feed.feed(sign)
            self.assertEqual((feed.open_names(), feed.live()), (names, live))

    def test_a_name_that_only_a_step_at_the_very_end_can_fill(self):
        machine = (("x",), ((0,), (2,)), (0,), (1,), ((0, BOTH, 1),), ((0, "a", 0),))
        feed = Feed(machine)
        for many in range(4):
            self.assertEqual(all_told(feed), ("a" * many, many, (((many, many),),), ("x",), True))
            feed.feed("a")

    def test_machines_without_starts_ends_or_names(self):
        for machine in (((), ((),), (), (0,), (), ((0, "a", 0),)), ((), ((),), (0,), (), (), ((0, "a", 0),)),
                        ((), ((),), (0,), (0,), (), ((0, "a", 0),))):
            feed = Feed(machine)
            for text in ("", "a", "aa", "aab"):
                feed.feed(text[len(feed):])
                self.assert_fed(feed, machine, text)

    def test_ends_that_are_some_signs_ahead(self):
        machine = ((), ((),) * 4, (3,), (0,), ((1, (), 2),), ((2, "a", 0), (3, "ab", 1)))
        for text, live in (("", True), ("b", True), ("ba", True), ("bb", False), ("baa", False), ("c", False)):
            feed = Feed(machine)
            feed.feed(text)
            self.assertIs(feed.live(), live, text)
            self.assert_fed(feed, machine, text)

    def test_two_hundred_signs_at_once_and_one_more(self):
        pattern = read("a*<x:b>[ab]*")
        text = "a" * 150 + "b" * 50
        feed = Feed(made(pattern))
        feed.feed(text)
        before = all_told(feed)
        self.assertEqual(before, (text, 200, rows_of(pattern, text), ("x",), True))
        for more in ("a", "A", "ab" * 90):
            with self.assertRaises(TooLong) as caught:
                feed.feed(more)
            self.assertEqual(caught.exception.length, 200 + len(more))
            self.assertEqual(all_told(feed), before)
        feed.feed("")
        self.assertEqual(all_told(feed), before)
        other = Feed(made(pattern))
        with self.assertRaises(TooLong) as caught:
            other.feed("a" * 201)
        self.assertEqual((caught.exception.length, other.fed()), (201, ""))

    def test_one_sign_more_when_fed_one_by_one(self):
        feed = Feed(made(read("[ab]*<x:b>a*")))
        for at in range(200):
            feed.feed("ab"[at % 2])
            self.assertEqual(len(feed.sees()), 1 if at else 0)
            self.assertIs(feed.live(), True)
        self.assertRaises(TooLong, feed.feed, "a")
        self.assertEqual(feed.sees(), (((199, 200),),))

    def test_foreign(self):
        machine = made(read("<x:.*>"))
        feed = Feed(machine)
        feed.feed("ab")
        before = all_told(feed)
        for sign in "AZ0-.\n~\t\u00e9{`@[":
            for place in (0, 1, 5):
                piece = "a b" * 2
                piece = piece[:place] + sign + piece[place:] + sign
                with self.assertRaises(Foreign) as caught:
                    feed.feed(piece)
                self.assertEqual(caught.exception.place, place)
                self.assertEqual(all_told(feed), before)
        feed.feed(SIGNS)
        self.assertEqual(feed.sees(), (((0, 29),),))

    def test_the_same_however_the_text_was_cut(self):
        numbers = random.Random(240)
        rows = 0
        for _ in range(120):
            machine = chance_machine(numbers, ("x", "y")[:numbers.randint(0, 2)], moves=numbers.choice((8, 20)))
            before = frozen(machine)
            text = numbers.choice(texts("ab", 5))
            feed = Feed(machine)
            while len(feed) < len(text):
                feed.feed(text[len(feed):len(feed) + numbers.randint(0, 3)])
                if numbers.random() < 0.7:
                    self.assert_fed(feed, machine, text[:len(feed)])
            whole = Feed(machine)
            whole.feed(text)
            self.assert_fed(feed, machine, text)
            self.assertEqual(all_told(whole), all_told(feed))
            rows += len(feed.sees())
            self.assertEqual(frozen(machine), before)
        self.assertGreater(rows, 100)

    def test_two_feeds_share_nothing(self):
        machine = made(read("<x:a*>b*"))
        one, other = Feed(machine), Feed(machine)
        one.feed("aab")
        self.assert_fed(other, machine, "")
        other.feed("b")
        self.assert_fed(one, machine, "aab")
        self.assert_fed(other, machine, "b")

    def test_forty_states_and_a_hundred_signs(self):
        reads = tuple((k, "ab" if k % 3 else "a", (k * 7 + 1) % 40) for k in range(40))
        machine = (("x",), ((0,),) * 40, tuple(range(0, 40, 3)), (39,), tuple((k, (), (k + 1) % 40) for k in range(40)),
                   tuple(sorted(reads)))
        feed = Feed(machine)
        numbers = random.Random(241)
        for _ in range(100):
            feed.feed(numbers.choice("aab"))
            self.assertEqual((feed.open_names(), feed.live()), ((), ahead(machine, feed.fed(), None)[0] == "yes"))


if __name__ == "__main__":
    unittest.main()
