"""[7] and [8]: reading a pattern's text, and its refusals."""

import itertools
import random
import re
import unittest

from markpieces.errors import Unfit, Unread
from markpieces.patterns import shaped
from markpieces.read import read
from tests.helpers import A, B, EMPTY, SIGNS, goes_through, texts

C = ("sign", "c")


def maybe(part):
    return ("some", 0, 1, part)


def often(part):
    return ("some", 0, None, part)


def plus(part):
    return ("some", 1, None, part)


class Reading(unittest.TestCase):
    def assert_read(self, text, pattern):
        self.assertEqual(repr(read(text)), repr(pattern), text)
        self.assertTrue(shaped(pattern))

    def assert_unread(self, text, place):
        with self.assertRaises(Unread, msg=text) as caught:
            read(text)
        self.assertEqual(repr(caught.exception.place), repr(place), text)

    def assert_unfit(self, text, why):
        with self.assertRaises(Unfit, msg=text) as caught:
            read(text)
        self.assertEqual(caught.exception.why, why, text)


class Grammar(Reading):
    def test_signs_and_rows(self):
        self.assert_read("", EMPTY)
        self.assert_read("a", A)
        self.assert_read(" ", ("sign", " "))
        self.assert_read("ab", ("row", (A, B)))
        self.assert_read("a b", ("row", (A, ("sign", " "), B)))
        self.assert_read(".", ("sign", SIGNS))
        self.assert_read("..", ("row", (("sign", SIGNS), ("sign", SIGNS))))

    def test_anys(self):
        self.assert_read("a|b", ("any", (A, B)))
        self.assert_read("a|b|c", ("any", (A, B, C)))
        self.assert_read("|", ("any", (EMPTY, EMPTY)))
        self.assert_read("a|", ("any", (A, EMPTY)))
        self.assert_read("|a", ("any", (EMPTY, A)))
        self.assert_read("a||b", ("any", (A, EMPTY, B)))
        self.assert_read("ab|c", ("any", (("row", (A, B)), C)))
        self.assert_read("a|a", ("any", (A, A)))

    def test_times(self):
        self.assert_read("a?", maybe(A))
        self.assert_read("a*", often(A))
        self.assert_read("a+", plus(A))
        self.assert_read("ab*", ("row", (A, often(B))))
        self.assert_read("(ab)*", often(("row", (A, B))))
        self.assert_read("(a|b)+", plus(("any", (A, B))))
        self.assert_read("(a?)*", often(maybe(A)))
        self.assert_read("()?", maybe(EMPTY))
        self.assert_read("()+a", ("row", (plus(EMPTY), A)))
        self.assert_read(" *", often(("sign", " ")))
        self.assert_read(".?", maybe(("sign", SIGNS)))

    def test_items(self):
        self.assert_read("[a]", A)
        self.assert_read("[ba]", ("sign", "ab"))
        self.assert_read("[aa]", A)
        self.assert_read("[c-e]", ("sign", "cde"))
        self.assert_read("[c-c]", C)
        self.assert_read("[ -b]", ("sign", " ab"))
        self.assert_read("[ -z]", ("sign", SIGNS))
        self.assert_read("[ab-dz ]", ("sign", " abcdz"))
        self.assert_read("[a-cb-d]", ("sign", "abcd"))
        self.assert_read("[ ]", ("sign", " "))
        self.assert_read("[ - ]", ("sign", " "))
        self.assert_read("[^ ]", ("sign", SIGNS[1:]))
        self.assert_read("[^a-z]", ("sign", " "))
        self.assert_read("[^ b-z]", A)
        self.assert_read("[^c-ec-ec]", ("sign", " abfghijklmnopqrstuvwxyz"))
        self.assert_read("[^ -y]*", often(("sign", "z")))

    def test_marks(self):
        self.assert_read("<a:b>", ("mark", "a", B))
        self.assert_read("<x:>", ("mark", "x", EMPTY))
        self.assert_read("<abcdefgh:a|b>", ("mark", "abcdefgh", ("any", (A, B))))
        self.assert_read("<x:ab>c", ("row", (("mark", "x", ("row", (A, B))), C)))
        self.assert_read("<x:a>*", often(("mark", "x", A)))
        self.assert_read("<x:<x:a>>", ("mark", "x", ("mark", "x", A)))
        self.assert_read("<x:(a)>", ("mark", "x", A))

    def test_put_together(self):
        self.assert_read("()", EMPTY)
        self.assert_read("(())", EMPTY)
        self.assert_read("()()", EMPTY)
        self.assert_read("(a)", A)
        self.assert_read("((a))", A)
        self.assert_read("a()", A)
        self.assert_read("()a", A)
        self.assert_read("()a()()", A)
        self.assert_read("(ab)c", ("row", (A, B, C)))
        self.assert_read("a(b(c))", ("row", (A, B, C)))
        self.assert_read("(a)(b)", ("row", (A, B)))
        self.assert_read("(a|b)", ("any", (A, B)))
        self.assert_read("(a|b)|c", ("any", (A, B, C)))
        self.assert_read("a|(b|(c|a))", ("any", (A, B, C, A)))
        self.assert_read("()(a|b)|c", ("any", (A, B, C)))
        self.assert_read("()|a", ("any", (EMPTY, A)))
        self.assert_read("(|)|", ("any", (EMPTY, EMPTY, EMPTY)))
        self.assert_read("(a|b)c", ("row", (("any", (A, B)), C)))
        self.assert_read("(a|b)c|a", ("any", (("row", (("any", (A, B)), C)), A)))
        self.assert_read("a((b|c))", ("row", (A, ("any", (B, C)))))
        self.assert_read("(a|b)?|c", ("any", (maybe(("any", (A, B))), C)))
        self.assert_read("(ab)?c", ("row", (maybe(("row", (A, B))), C)))
        self.assert_read("<x:(ab)c>a", ("row", (("mark", "x", ("row", (A, B, C))), A)))
        self.assert_read("(()|a)b", ("row", (("any", (EMPTY, A)), B)))

    def test_it_goes_through_what_pythons_own_patterns_do(self):
        numbers = random.Random(11)
        short = texts("ab ", 4)
        for _ in range(400):
            text = chance_text(numbers, 4)
            try:
                pattern = read(text)
            except Unfit:
                continue
            own = re.compile(re.sub("<[a-z]+:|[(]", "(?:", text).replace(">", ")"))
            for told in short:
                self.assertEqual(goes_through(pattern, told), own.fullmatch(told) is not None, (text, told))

    def test_the_same_again(self):
        for text in ("a|(b|c)*", "<x:[^a-c]>", ""):
            self.assertEqual(read(text), read(text))


def chance_text(numbers, depth):
    """The text of a pattern, by chance."""
    branches = []
    for _ in range(numbers.choice((1, 1, 2))):
        branch = ""
        for _ in range(numbers.choice((0, 1, 1, 2, 3))):
            kind = numbers.randrange(6 if depth else 4)
            if kind == 4:
                branch += "(" + chance_text(numbers, depth - 1) + ")"
            elif kind == 5:
                branch += "<" + numbers.choice(("x", "yy")) + ":" + chance_text(numbers, depth - 1) + ">"
            else:
                branch += numbers.choice(("a", "b", " ", ".", "[a-b]", "[^a]", "[ b]", "[^ -a]", "[c]"))
            branch += numbers.choice(("", "", "", "?", "*", "+"))
        branches.append(branch)
    return "|".join(branches)


class Refused(Reading):
    def test_what_no_text_goes_on_with(self):
        for text, place in (("*", 0), ("+", 0), ("?", 0), ("a**", 2), ("a?+", 2), ("a|*", 2), ("(*)", 1), ("<x:+>", 3),
                            (")", 0), ("a)", 1), (">", 0), ("(a>", 2), ("<x:a)", 4), ("(a))", 3), ("<x:a>>", 5),
                            ("]", 0), ("a]", 1), ("^", 0), ("a^", 1), ("-", 0), ("a-b", 1), (":", 0), ("x:", 1),
                            ("A", 0), ("aB", 1), ("0", 0), ("a~", 1), ("{", 0), ("a,b", 1), ("abc_", 3), ("a\"", 1)):
            self.assert_unread(text, place)

    def test_items_that_are_none(self):
        for text, place in (("[]", 1), ("[^]", 2), ("[^^a]", 2), ("[a^]", 2), ("[-a]", 1), ("[a-]", 3), ("[a--b]", 3),
                            ("[a-b-c]", 4), ("[.]", 1), ("[a|b]", 2), ("[(]", 1), ("[[", 1), ("[a[", 2), ("[A]", 1),
                            ("[a*]", 2), ("[a:", 2), ("[^-", 2), ("[a-A]", 3), ("[<", 1)):
            self.assert_unread(text, place)

    def test_first_of_an_item_behind_its_second(self):
        for text, place in (("[b-a]", 3), ("[a- ]", 3), ("[z-y", 3), ("x[ab-ac]", 5), ("[^c-b", 4)):
            self.assert_unread(text, place)

    def test_no_sign_left(self):
        for text, place in (("[^ -z]", 5), ("[^a-z ]", 6), ("[^ -mn-z]", 8), ("a[^ -zab]b", 8), ("[^" + SIGNS + "]", 29),
                            ("[^ -z", 5), ("[^ -z*]", 5), ("[^ -za", 6), ("[^ -zb-a]", 7), ("([^ -z]*", 6)):
            self.assert_unread(text, place)

    def test_names(self):
        for text, place in (("<", 1), ("<:a>", 1), ("<a", 2), ("<a>", 2), ("<a b:c>", 2), ("<abcdefghi:a>", 9),
                            ("<abcdefgh", 9), ("<abcdefghi", 9), ("< a:b>", 1), ("<A:b>", 1), ("<a1:b>", 2), ("<(", 1),
                            ("<<a:b>:c>", 1), ("<abcdefg", 8), ("<a::b>", 3)):
            self.assert_unread(text, place)

    def test_it_ends_too_early(self):
        for text in ("(", "((a)", "(a|", "[", "[^", "[a", "[a-", "[^a-b", "<", "<x", "<x:", "<x:a", "(<x:a>", "<x:(a)"):
            self.assert_unread(text, len(text))

    def test_twenty_brackets_at_once(self):
        self.assert_read("(" * 20 + "a" + ")" * 20, A)
        self.assert_read("(" * 19 + "[a]" + ")" * 19, A)
        self.assert_read("()" * 30, EMPTY)
        self.assert_read(("(" * 20 + ")" * 20) * 3, EMPTY)
        self.assert_unfit("<x:" * 20 + "a" + ">" * 20, "deep")
        for text, place in (("(" * 21 + "a" + ")" * 21, 20), ("(" * 20 + "[a]", 20), ("(" * 20 + "<x:", 20),
                            ("<x:" * 20 + "(", 60), ("<x:" * 20 + "<x:", 60), ("<x:" * 20 + "[a]", 60),
                            ("(<x:" * 10 + "a[b]", 41), ("(" * 19 + "[a](", 23), ("()" * 40 + "(" * 21, 100)):
            self.assert_unread(text, place)

    def test_the_first_place_that_is_wrong_counts(self):
        self.assert_unread("a**(" + "(" * 30, 2)
        self.assert_unread("(" * 22 + "**", 20)
        self.assert_unread("a" * 100 + ")", 100)

    def test_long_texts(self):
        for one in "~!A1}":
            self.assert_unread("a" * 1999 + one, 1999)
        self.assert_unread("a" * 1999 + "(", 2000)
        self.assert_unread("[" + "a" * 1999, 2000)
        self.assert_unfit("a" * 2000, "forms")
        self.assert_unfit("|" * 2000, "forms")
        self.assert_read("()" * 1000, EMPTY)
        self.assert_read("[" + "ab" * 999 + "]", ("sign", "ab"))
        self.assert_read("[^" + "b-z" * 665 + " ]", A)

    def test_every_sign_from_the_blank_to_the_last(self):
        for code in range(32, 127):
            one = chr(code)
            if one in SIGNS:
                self.assert_read(one, ("sign", one))
            elif one == ".":
                self.assert_read(one, ("sign", SIGNS))
            elif one == "|":
                self.assert_read(one, ("any", (EMPTY, EMPTY)))
            else:
                self.assert_unread(one, 1 if one in "([<" else 0)


class Beyond(Reading):
    def test_forms(self):
        self.assert_read("a" * 59, ("row", (A,) * 59))
        self.assert_unfit("a" * 60, "forms")
        self.assert_read("|".join("a" * 59), ("any", (A,) * 59))
        self.assert_unfit("|".join("a" * 60), "forms")
        self.assert_read("a*" * 29 + "a", ("row", (often(A),) * 29 + (A,)))
        self.assert_unfit("a*" * 30, "forms")

    def test_forms_are_counted_as_they_are_put_together(self):
        self.assert_read("(aa)" * 29 + "a", ("row", (A,) * 59))
        self.assert_read("((a))()" * 59, ("row", (A,) * 59))
        self.assert_unfit("(aa)" * 30, "forms")
        self.assert_read("(a|a)|" * 29 + "a", ("any", (A,) * 59))

    def test_deep(self):
        deep = A
        for _ in range(11):
            deep = maybe(deep)
        self.assert_read("(" * 10 + "a?" + ")?" * 10, deep)
        self.assert_unfit("(" * 11 + "a?" + ")?" * 11, "deep")
        self.assert_unfit("<x:" * 12 + "a" + ">" * 12, "deep")
        self.assert_read("(" * 10 + "(a)?" + ")?" * 10, deep)
        self.assert_unfit("(" * 10 + "(a|b)?" + ")?" * 10, "deep")
        self.assert_read("a(" * 10 + "b" + ")" * 10, ("row", (A,) * 10 + (B,)))

    def test_names(self):
        four = "<a:><b:><c:><d:>"
        self.assert_read(four + "<a:>", ("row", tuple(("mark", name, EMPTY) for name in "abcda")))
        self.assert_unfit(four + "<e:>", "names")
        self.assert_unfit("<e:" + four + ">", "names")

    def test_the_first_bound_is_told(self):
        names = "<a:><b:><c:><d:><e:>"
        deep = "(" * 11 + "a?" + ")?" * 11
        many = "a" * 60
        self.assert_unfit(names + deep + many, "forms")
        self.assert_unfit(names + many, "forms")
        self.assert_unfit(deep + many, "forms")
        self.assert_unfit(names + deep, "deep")

    def test_unread_goes_ahead_of_unfit(self):
        self.assert_unread("a" * 70 + "(", 71)
        self.assert_unread("<a:><b:><c:><d:><e:>)", 20)
        self.assert_unread("(" * 11 + "a?" + ")?" * 11 + "*", 35)


CLASS = re.compile(r"\[(\^?)((?:[ a-z](?:-[ a-z])?)+)\]")
BODY = "(?:[ a-z.X][?*+]?|[|])*"
HELD = re.compile(rf"\({BODY}\)|<[a-z]{{1,8}}:{BODY}>")


def is_told(text):
    """Whether [7] tells the text, but for what a [^ .. ] leaves: by putting X for what is held."""
    text = CLASS.sub(lambda found: "!" if falls(found.group(2)) else "X", text.replace("X", "!"))
    while HELD.search(text):
        text = HELD.sub("X", text)
    return re.fullmatch(BODY, text) is not None


def falls(items):
    """Whether one of the items goes from a later sign to an earlier one."""
    return any(item[0] > item[-1] for item in re.findall("[ a-z](?:-[ a-z])?", items))


def can_go_on(text):
    """Whether some text that [7] tells begins so: by trying what could end it."""
    shut = ["".join(told) for many in range(text.count("(") + text.count("<") + 1)
            for told in itertools.product(")>", repeat=many)]
    return any(is_told(text + more + end) for more in ("", "]", "z]", ":", "z:") for end in shut)


class Places(Reading):
    """The place of Unread, against the words of [8], for all short texts."""

    def test_every_short_text(self):
        beginnings = [""]
        for many in range(5):
            longer = []
            for text in beginnings:
                for one in "ab |*.[]^-()<:>A":
                    self.judge(text + one, many, longer)
            beginnings = longer
        self.assertGreater(len(beginnings), 1000)

    def test_long_names_and_brackets(self):
        for text in ("<abcdefg", "(<ab:[^a-", "((<x:a|", "[a-cb", "<ab:<c:d>"):
            for one in "ab |*?.[]^-()<:>A":
                self.judge(text + one, len(text), [])

    def judge(self, text, last, longer):
        """Text, of which all but the sign at last can go on, is read or refused as it must be."""
        if not can_go_on(text):
            self.assert_unread(text, last)
        elif not is_told(text):
            longer.append(text)
            self.assert_unread(text, last + 1)
        else:
            longer.append(text)
            self.assertTrue(shaped(read(text)))


if __name__ == "__main__":
    unittest.main()
