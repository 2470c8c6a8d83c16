"""[14]: marks, and the told order."""

import itertools
import random
import unittest

from markpieces.order import in_order, marks_at
from tests.helpers import pieces, plain_marks, plain_order


class Marks(unittest.TestCase):
    def test_begins_and_ends(self):
        row, names = ((1, 3), None, (3, 3)), ("a", "b", "c")
        self.assertEqual(marks_at(row, names, 0), ())
        self.assertEqual(marks_at(row, names, 1), (("a", 0),))
        self.assertEqual(marks_at(row, names, 2), ())
        self.assertEqual(marks_at(row, names, 3), (("a", 1), ("c", 0), ("c", 1)))
        self.assertEqual(marks_at(row, names, 4), ())

    def test_the_text_length_and_empty_pieces(self):
        self.assertEqual(marks_at(((200, 200),), ("x",), 200), (("x", 0), ("x", 1)))
        self.assertEqual(marks_at(((0, 200),), ("x",), 200), (("x", 1),))
        self.assertEqual(marks_at((), (), 0), ())
        self.assertEqual(marks_at((None,), ("x",), 0), ())

    def test_the_marks_rise_whatever_the_order_of_the_names(self):
        self.assertEqual(marks_at(((0, 1), (0, 0)), ("b", "a"), 0), (("a", 0), ("a", 1), ("b", 0)))

    def test_against_the_words(self):
        for row in itertools.product(pieces(3), repeat=2):
            for place in range(5):
                self.assertEqual(marks_at(row, ("a", "b"), place), plain_marks(row, ("a", "b"), place))


class Order(unittest.TestCase):
    def test_one_name(self):
        rows = [None, (1, 1), (0, 1), (0, 0), (1, 2), (0, 2), (2, 2)]
        told = in_order([(piece,) for piece in rows], ("x",))
        self.assertEqual(told, (((0, 1),), ((0, 2),), ((0, 0),), ((1, 2),), ((1, 1),), ((2, 2),), (None,)))

    def test_no_marks_stand_behind_all_others(self):
        names = ("a", "b")
        ahead, later = ((2, 3), (1, 3)), ((2, 3), (2, 3))
        self.assertEqual(in_order([later, ahead], names), (ahead, later))
        ahead, later = ((0, 0), (5, 5)), ((0, 0), None)
        self.assertEqual(in_order([later, ahead], names), (ahead, later))

    def test_the_lesser_tuple_goes_ahead(self):
        names = ("a", "b")
        rows = (((0, 1), None), ((0, 1), (0, 1)), ((0, 0), (0, 1)), ((1, 1), (0, 1)))
        told = (((0, 0), (0, 1)), ((0, 1), (0, 1)), ((0, 1), None), ((1, 1), (0, 1)))
        # At place 0: (a0 a1 b0), (a0 b0), (a0), (b0), of which (a0) is the least.
        self.assertEqual(in_order(rows, names), (told[2], told[0], told[1], told[3]))

    def test_each_once(self):
        row = ((0, 1), None)
        self.assertEqual(in_order([row, row, ((0, 1), None)], ("a", "b")), (row,))
        self.assertEqual(in_order((row, (None, None), row), ("a", "b")), (row, (None, None)))

    def test_rows_without_names(self):
        self.assertEqual(in_order([], ()), ())
        self.assertEqual(in_order([()], ()), ((),))
        self.assertEqual(in_order(((), (), ()), ()), ((),))
        self.assertEqual(in_order([], ("a",)), ())
        self.assertEqual(in_order((), ("a",)), ())

    def test_all_rows_of_a_short_text(self):
        numbers = random.Random(50)
        for names, most in ((("x",), 6), (("a", "b"), 3), (("a", "ab", "b"), 1)):
            rows = list(itertools.product(pieces(most), repeat=len(names)))
            told = tuple(sorted(rows, key=plain_order(names)))
            numbers.shuffle(rows)
            self.assertEqual(in_order(rows, names), told)
            self.assertEqual(in_order(tuple(rows + rows), names), told)

    def test_chance_rows_of_four_names(self):
        numbers = random.Random(51)
        names = ("a", "b", "c", "d")
        for most in (1, 2, 4, 200):
            rows = [tuple(chance_piece(numbers, most) for _ in names) for _ in range(40)]
            told = tuple(sorted(set(rows), key=plain_order(names)))
            before = list(rows)
            self.assertEqual(in_order(rows, names), told)
            self.assertEqual(rows, before)
            self.assertEqual(in_order(rows, names), told)


def chance_piece(numbers, most):
    begin, end = sorted((numbers.randint(0, most), numbers.randint(0, most)))
    return numbers.choice((None, (begin, end), (begin, end), (begin, begin)))


if __name__ == "__main__":
    unittest.main()
