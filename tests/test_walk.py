"""[28]: a walk through a tree."""

import random
import unittest

from markpieces.walk import Walk


class Tree:
    """A tree whose nodes are tuples of labels; it notes what is asked, and raises where it is told to."""

    def __init__(self, within, depth):
        self.within = within
        self.depth = depth
        self.asked = []
        self.failing = []

    def edges(self, node):
        if self.failing and self.failing.pop(0):
            raise KeyError(node)
        self.asked.append(node)
        at = () if node is None else node
        return tuple((label, (*at, label)) for label in self.within(at))

    def ways(self):
        """All ways, by the words."""
        found = [()]
        for _ in range(self.depth):
            found = [(*way, label) for way in found for label in self.within(way)]
        return found


def all_of(walk):
    found = []
    while True:
        way = walk.more()
        if way is None:
            return found
        found.append(way)


class Walks(unittest.TestCase):
    def test_in_the_order_of_the_edges(self):
        tree = Tree(lambda at: "ba" if len(at) % 2 == 0 else "xzy", 3)
        walk = Walk(tree.edges, 3)
        self.assertEqual(walk.more(), ("b", "x", "b"))
        self.assertEqual(walk.more(), ("b", "x", "a"))
        self.assertEqual(walk.more(), ("b", "z", "b"))
        self.assertEqual(all_of(walk), tree.ways()[3:])
        self.assertEqual([walk.more() for _ in range(3)], [None] * 3)

    def test_depth_0_tells_the_empty_way_once_without_asking(self):
        tree = Tree(lambda at: "ab", 0)
        walk = Walk(tree.edges, 0)
        self.assertEqual([walk.more() for _ in range(4)], [(), None, None, None])
        self.assertEqual(tree.asked, [])

    def test_a_first_node_without_edges_is_asked_once(self):
        for depth in (1, 2, 400):
            tree = Tree(lambda at: "", depth)
            walk = Walk(tree.edges, depth)
            self.assertEqual([walk.more() for _ in range(3)], [None] * 3)
            self.assertEqual(tree.asked, [None])

    def test_depth_1(self):
        tree = Tree(lambda at: "cab", 1)
        walk = Walk(tree.edges, 1)
        self.assertEqual([walk.more() for _ in range(5)], [("c",), ("a",), ("b",), None, None])
        self.assertEqual(tree.asked, [None])

    def test_depth_400(self):
        tree = Tree(lambda at: (0, 1), 400)
        walk = Walk(tree.edges, 400)
        self.assertEqual(tree.asked, [])
        self.assertEqual(walk.more(), (0,) * 400)
        self.assertEqual(len(tree.asked), 400)
        self.assertEqual(walk.more(), (0,) * 399 + (1,))
        self.assertEqual(len(tree.asked), 400)
        self.assertEqual(walk.more(), (0,) * 398 + (1, 0))
        self.assertEqual(tree.asked[400:], [(0,) * 398 + (1,)])
        for _ in range(300):
            before = len(tree.asked)
            walk.more()
            self.assertLessEqual(len(tree.asked) - before, 400)
        self.assertEqual(len(tree.asked), len(set(tree.asked)))

    def test_each_beginning_is_asked_once_when_it_is_first_come_to(self):
        numbers = random.Random(160)
        for _ in range(60):
            depth = numbers.randint(1, 5)
            seed = numbers.random()
            tree = Tree(lambda at: random.Random(f"{seed}{at}").sample("abc", random.Random(f"{at}{seed}").randint(1, 3)), depth)
            walk = Walk(tree.edges, depth)
            expected = []
            for way in tree.ways():
                for length in range(depth):
                    if way[:length] not in expected:
                        expected.append(way[:length])
                self.assertEqual(walk.more(), way)
                self.assertEqual([() if node is None else node for node in tree.asked], expected)
            self.assertIs(walk.more(), None)
            self.assertEqual(len(tree.asked), len(expected))

    def test_one_node_by_two_ways_is_asked_for_each_beginning(self):
        asked = []

        def edges(node):
            asked.append(node)
            return (("a", 7), ("b", 7))
        walk = Walk(edges, 2)
        self.assertEqual(all_of(walk), [("a", "a"), ("a", "b"), ("b", "a"), ("b", "b")])
        self.assertEqual(asked, [None, 7, 7])

    def test_nodes_and_labels_of_any_kind(self):
        nodes = [[], {}, None, "", 0, False, object()]
        labels = [None, [], {}, 0, True, "", ()]
        walk = Walk(lambda node: tuple((label, inner) for label in labels for inner in nodes), 2)
        found = all_of(walk)
        self.assertEqual(len(found), 49 * 49)
        self.assertEqual(found[0], (None, None))
        self.assertIs(found[-1][1], labels[-1])

    def test_what_edges_raises_goes_through_and_the_walk_stands_where_it_stood(self):
        numbers = random.Random(161)
        for _ in range(200):
            depth = numbers.randint(1, 4)
            tree = Tree(lambda at: "abc"[:1 + len(at) % 3], depth)
            tree.failing = [numbers.random() < 0.3 for _ in range(40)]
            walk = Walk(tree.edges, depth)
            found = []
            raised = 0
            while len(found) < len(tree.ways()) + 2:
                try:
                    found.append(walk.more())
                except KeyError:
                    raised += 1
            self.assertEqual(found, tree.ways() + [None, None])
            self.assertLessEqual(len(tree.asked), len({repr(node) for node in tree.asked}) + raised * depth)

    def test_raising_once_and_again_at_each_time(self):
        whole = Tree(lambda at: "ab", 4)
        all_of(Walk(whole.edges, 4))
        for at in range(len(whole.asked)):
            tree = Tree(lambda at: "ab", 4)
            tree.failing = [False] * at + [True, True, True]
            walk = Walk(tree.edges, 4)
            found = []
            errors = []
            while len(found) < 17:
                try:
                    found.append(walk.more())
                except KeyError as error:
                    errors.append(error.args[0])
            self.assertEqual(found, tree.ways() + [None])
            self.assertEqual(len(errors), 3)
            self.assertEqual(errors[0], whole.asked[at])

    def test_raising_at_the_first_node(self):
        tree = Tree(lambda at: "ab", 1)
        tree.failing = [True, True]
        walk = Walk(tree.edges, 1)
        for _ in range(2):
            self.assertRaises(KeyError, walk.more)
        self.assertEqual(all_of(walk), [("a",), ("b",)])

    def test_errors_of_every_kind_go_through(self):
        for error in (ValueError, StopIteration, KeyboardInterrupt, IndexError, RecursionError):
            def edges(node):
                raise error()
            self.assertRaises(error, Walk(edges, 1).more)

    def test_two_walks_share_nothing(self):
        tree = Tree(lambda at: "ab", 2)
        one, other = Walk(tree.edges, 2), Walk(tree.edges, 2)
        self.assertEqual([one.more(), one.more(), other.more(), one.more(), other.more()],
                         [("a", "a"), ("a", "b"), ("a", "a"), ("b", "a"), ("a", "b")])


if __name__ == "__main__":
    unittest.main()
