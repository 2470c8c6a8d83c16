"""[17], [18]: tables, and the deeds on them."""

import itertools
import random
import unittest

from markpieces.errors import NoName, PieceError, TooMany, Unlike
from markpieces.tables import Table, either, joined, only, same, without
from tests.helpers import odd_things, pieces, told


def part(row, names, some):
    """The row's part of some of its names."""
    return tuple(row[names.index(name)] for name in some)


def plain_joined(one, other):
    """By the words: all rows of the names of both whose parts are rows of the two."""
    names = tuple(sorted(set(one.names) | set(other.names)))
    met = sorted({piece for row in one.rows + other.rows for piece in row}, key=repr)
    rows = [row for row in itertools.product(met, repeat=len(names))
            if part(row, names, one.names) in one.rows and part(row, names, other.names) in other.rows]
    return names, told(rows, names)


def plain_either(one, other):
    names = tuple(sorted(set(one.names) | set(other.names)))
    rows = [tuple(row[table.names.index(name)] if name in table.names else None for name in names)
            for table in (one, other) for row in table.rows]
    return names, told(rows, names)


def chance_table(numbers, names, most=2):
    row = [numbers.choice(pieces(most)) for name in names]
    rows = [row]
    for _ in range(numbers.randint(0, 6)):
        row = [piece if numbers.random() < 0.6 else numbers.choice(pieces(most)) for piece in row]
        rows.append(row)
    return Table(names, [tuple(row) for row in rows[numbers.randint(0, 1):]])


class Kept(unittest.TestCase):
    def test_names_rise_and_rows_are_turned(self):
        table = Table(["y", "x"], [((0, 1), (2, 3)), (None, (0, 0))])
        self.assertEqual(table.names, ("x", "y"))
        self.assertEqual(repr(table.rows), "(((0, 0), None), ((2, 3), (0, 1)))")

    def test_each_once_in_the_told_order(self):
        rows = [(None,), ((1, 1),), ((0, 1),), (None,), ((0, 0),), ((0, 1),)]
        table = Table(("x",), rows)
        self.assertEqual(table.rows, (((0, 1),), ((0, 0),), ((1, 1),), (None,)))
        self.assertEqual(len(table), 4)
        for seed in range(30):
            numbers = random.Random(seed)
            names = numbers.sample(["a", "b", "ba", "z"], numbers.randint(0, 4))
            handed = [tuple(numbers.choice(pieces(2)) for name in names) for _ in range(30)]
            table = Table(names, handed)
            rising = tuple(sorted(names))
            self.assertEqual(table.names, rising)
            self.assertEqual(table.rows, told([part(row, names, rising) for row in handed], rising))
            self.assertEqual(len(table), len(table.rows))

    def test_lists_and_tuples_stay_as_they_are_and_may_change_behind(self):
        names, rows = ["y", "x"], [((0, 1), None), (None, (0, 200))]
        table = Table(names, rows)
        self.assertEqual((names, rows), (["y", "x"], [((0, 1), None), (None, (0, 200))]))
        kept = (table.names, table.rows)
        names.append("z")
        rows.clear()
        self.assertEqual((table.names, table.rows), kept)
        self.assertIs(type(table.names), tuple)
        self.assertIs(type(table.rows), tuple)
        self.assertEqual(Table(("y", "x"), (((0, 1), None), (None, (0, 200)))), table)

    def test_pieces_up_to_200(self):
        self.assertEqual(Table(("x",), [((200, 200),), ((0, 200),)]).rows, (((0, 200),), ((200, 200),)))

    def test_none_at_all(self):
        self.assertEqual((Table([], []).names, Table([], []).rows, len(Table([], []))), ((), (), 0))
        self.assertEqual((Table((), [(), ()]).rows, len(Table((), [()]))), (((),), 1))
        self.assertEqual(len(Table(("x",), ())), 0)

    def test_two_objects_share_nothing(self):
        one, other = Table(("x",), [((0, 1),)]), Table(("x",), [((0, 1),)])
        one.rows = ()
        self.assertEqual(len(other), 1)


class Equal(unittest.TestCase):
    def test_equal(self):
        table = Table(["y", "x"], [((0, 1), None)])
        self.assertTrue(table == Table(["x", "y"], [(None, (0, 1)), (None, (0, 1))]))
        self.assertFalse(table != Table(["x", "y"], [(None, (0, 1))]))
        self.assertFalse(table == Table(["x", "y"], [((0, 1), None)]))
        self.assertFalse(table == Table(["x", "z"], [(None, (0, 1))]))
        self.assertFalse(table == Table(["x", "y"], []))
        self.assertFalse(Table([], []) == Table([], [()]))
        self.assertFalse(Table(["x"], []) == Table([], []))

    def test_equal_to_nothing_else(self):
        for table in (Table([], []), Table([], [()]), Table(["x"], [(None,)])):
            for thing in [*odd_things(), table.rows, table.names, (table.names, table.rows), str(table), len(table)]:
                self.assertFalse(table == thing)
                self.assertTrue(table != thing)


class Shown(unittest.TestCase):
    def test_lines(self):
        table = Table(["y", "x"], [((0, 1), (10, 200)), (None, (0, 0)), (None, None)])
        self.assertEqual(str(table), "x y\n0-0 -\n10-200 0-1\n- -")
        self.assertEqual(str(Table(["name"], [((3, 7),)])), "name\n3-7")

    def test_the_order_of_lines_is_the_told_order(self):
        self.assertEqual(str(Table(["x"], [(None,), ((1, 2),), ((0, 0),), ((0, 2),)])), "x\n0-2\n0-0\n1-2\n-")

    def test_without_names_or_rows(self):
        self.assertEqual(str(Table([], [])), "")
        self.assertEqual(str(Table([], [()])), "\n")
        self.assertEqual(str(Table(["b", "a"], [])), "a b")


class Joined(unittest.TestCase):
    def test_ordinary(self):
        one = Table(["x", "y"], [((0, 1), (1, 2)), ((0, 1), None), (None, (0, 0))])
        other = Table(["y", "z"], [((1, 2), (3, 3)), (None, (2, 2)), (None, None), ((5, 5), None)])
        table = joined(one, other)
        self.assertIsInstance(table, Table)
        self.assertEqual(table.names, ("x", "y", "z"))
        self.assertEqual(set(table.rows), {((0, 1), (1, 2), (3, 3)), ((0, 1), None, (2, 2)), ((0, 1), None, None)})

    def test_a_shared_name_that_is_none_in_both(self):
        one, other = Table(["x"], [(None,)]), Table(["x"], [(None,), ((0, 0),)])
        self.assertEqual(joined(one, other).rows, ((None,),))

    def test_no_shared_name_gives_all_pairs(self):
        one, other = Table(["x"], [(None,), ((0, 1),)]), Table(["y"], [((1, 1),), ((2, 2),), (None,)])
        self.assertEqual(len(joined(one, other)), 6)
        self.assertEqual(joined(one, Table([], [()])), one)
        self.assertEqual(joined(one, Table([], [])), Table(["x"], []))
        self.assertEqual(joined(Table([], [()]), Table([], [()])).rows, ((),))

    def test_four_names_and_five(self):
        one = Table(["a", "b"], [(None, None)])
        self.assertEqual(len(joined(one, Table(["c", "d"], [(None, None)])).names), 4)
        self.assertEqual(len(joined(Table(["a", "b", "c", "d"], []), Table(["d", "a"], [])).names), 4)
        for deed in (joined, either):
            with self.assertRaises(TooMany) as caught:
                deed(one, Table(["c", "d", "e"], []))
            self.assertEqual(caught.exception.count, 5)
            with self.assertRaises(TooMany) as caught:
                deed(Table(["a", "b", "c", "d"], []), Table(["e", "f", "g", "h"], []))
            self.assertEqual(caught.exception.count, 8)
            self.assertIsInstance(caught.exception, PieceError)

    def test_many_rows(self):
        one = Table(["x", "y"], [((k, k), (k % 7, 9)) for k in range(200)])
        other = Table(["y", "z"], [((k % 7, 9), (k, k)) for k in range(70)])
        self.assertEqual(len(joined(one, other)), 2000)

    def test_against_the_words(self):
        numbers = random.Random(80)
        for _ in range(150):
            one = chance_table(numbers, numbers.sample("abc", numbers.randint(0, 2)))
            other = chance_table(numbers, numbers.sample("abc", numbers.randint(0, 2)))
            table = joined(one, other)
            self.assertEqual((table.names, table.rows), plain_joined(one, other))


class Either(unittest.TestCase):
    def test_ordinary(self):
        one, other = Table(["x"], [((0, 1),), (None,)]), Table(["x", "y"], [((0, 1), None), ((2, 2), (3, 3))])
        table = either(one, other)
        self.assertEqual(table.names, ("x", "y"))
        self.assertEqual(table.rows, (((0, 1), None), ((2, 2), (3, 3)), (None, None)))
        self.assertEqual(either(Table([], [()]), one).rows, (((0, 1),), (None,)))
        self.assertEqual(either(Table([], []), Table([], [])).rows, ())

    def test_against_the_words(self):
        numbers = random.Random(81)
        for _ in range(200):
            one = chance_table(numbers, numbers.sample("abcd", numbers.randint(0, 4)))
            other = chance_table(numbers, numbers.sample("abcd", numbers.randint(0, 4)))
            table = either(one, other)
            self.assertEqual((table.names, table.rows), plain_either(one, other))


class Without(unittest.TestCase):
    def test_ordinary(self):
        one = Table(["y", "x"], [((0, 1), None), ((2, 2), (3, 3)), (None, None)])
        other = Table(["x", "y"], [(None, (0, 1)), ((9, 9), None)])
        self.assertEqual(without(one, other), Table(["x", "y"], [((3, 3), (2, 2)), (None, None)]))
        self.assertEqual(without(one, one), Table(["x", "y"], []))
        self.assertEqual(without(one, Table(["x", "y"], [])), one)
        self.assertEqual(without(Table([], [()]), Table([], [])).rows, ((),))
        self.assertEqual(without(Table([], [()]), Table([], [()])).rows, ())

    def test_unlike(self):
        for names, others, odd in ((["x"], [], ("x",)), ([], ["z"], ("z",)), (["c", "x", "a"], ["b", "x"], ("a", "b", "c")),
                                   (["a", "b"], ["c", "d"], ("a", "b", "c", "d"))):
            with self.assertRaises(Unlike) as caught:
                without(Table(names, []), Table(others, []))
            self.assertEqual(caught.exception.names, odd)
            self.assertIsInstance(caught.exception, PieceError)


class Only(unittest.TestCase):
    def test_ordinary(self):
        table = Table(["x", "y", "z"], [((0, 1), None, (1, 1)), ((0, 1), (0, 0), (1, 1)), (None, None, (2, 2))])
        self.assertEqual(only(table, ["x"]).rows, (((0, 1),), (None,)))
        self.assertEqual(only(table, ("z", "y")), Table(["y", "z"], [(None, (1, 1)), ((0, 0), (1, 1)), (None, (2, 2))]))
        self.assertEqual(only(table, ["z", "x", "y"]), table)

    def test_of_no_names(self):
        table = Table(["x"], [((0, 1),), (None,)])
        self.assertEqual((only(table, []).names, only(table, ()).rows), ((), ((),)))
        self.assertEqual(only(Table(["x"], []), []).rows, ())
        self.assertEqual(only(Table([], [()]), ()).rows, ((),))

    def test_the_first_that_is_not_there(self):
        table = Table(["x", "y"], [])
        for names, first in ((["z"], "z"), (("x", "w", "a"), "w"), (["b", "x", "a"], "b")):
            with self.assertRaises(NoName) as caught:
                only(table, names)
            self.assertEqual(caught.exception.name, first)
            self.assertNotIsInstance(caught.exception, PieceError)

    def test_what_is_handed_in_stays(self):
        table, names = Table(["x", "y"], [((0, 1), None)]), ["y", "x"]
        made = only(table, names)
        self.assertEqual(names, ["y", "x"])
        names.clear()
        self.assertEqual(made.names, ("x", "y"))
        self.assertEqual(table, Table(["x", "y"], [((0, 1), None)]))


class Same(unittest.TestCase):
    def test_ordinary(self):
        table = Table(["x", "y"], [((0, 1), (2, 3)), ((0, 1), (1, 2)), ((0, 0), (3, 3)), (None, (0, 1)), (None, None),
                                   ((0, 1), None), ((0, 3), (0, 3))])
        kept = same(table, "x", "y", "aba")
        self.assertEqual(kept, Table(["x", "y"], [((0, 1), (2, 3)), ((0, 0), (3, 3)), ((0, 3), (0, 3))]))
        self.assertEqual(same(table, "y", "x", "aba"), kept)
        self.assertEqual(same(Table(["x"], []), "x", "x", ""), Table(["x"], []))

    def test_one_name_twice(self):
        table = Table(["x", "y"], [(None, (0, 1)), ((0, 1), None)])
        self.assertEqual(same(table, "x", "x", "a"), Table(["x", "y"], [((0, 1), None)]))

    def test_the_first_that_is_not_there(self):
        table = Table(["x"], [(None,)])
        for one, other, first in (("y", "x", "y"), ("x", "y", "y"), ("z", "y", "z"), ("y", "z", "y"), ("y", "y", "y")):
            with self.assertRaises(NoName) as caught:
                same(table, one, other, "")
            self.assertEqual(caught.exception.name, first)


class Throughout(unittest.TestCase):
    def test_tables_stay_as_they_are_and_answers_are_new(self):
        one, other = Table(["x", "y"], [((0, 1), None)]), Table(["x", "y"], [((1, 1), (0, 0))])
        before = (repr(one.names), repr(one.rows), repr(other.names), repr(other.rows))
        for deed in (joined, either, without):
            made = deed(one, other)
            self.assertEqual(deed(one, other), made)
            made.rows = made.names = None
        for made in (only(one, ["x", "y"]), same(one, "x", "x", "ab"), without(one, other), either(one, one)):
            made.rows = None
        self.assertEqual((repr(one.names), repr(one.rows), repr(other.names), repr(other.rows)), before)


if __name__ == "__main__":
    unittest.main()
