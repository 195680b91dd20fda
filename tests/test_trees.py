"""What the package itself uses to go through trees."""

import itertools
import unittest

import helpers
from onescore.trees import key_of, listed, numbered


class Keys(unittest.TestCase):
    def test_equal_trees_and_no_others_share_a_key(self):
        trees = [(), ((),), ("a",), (("a",),), ("a", "b"), (("a",), "b"), ("a", ("b",)), (("a", "b"),), ("b", "a"),
                 ((), "a"), ("a", ()), ((), ()), 1, "1", "a", (1,), ("1",), (1, ("name", "x")), (1, "name", "x")]
        for one, other in itertools.product(trees, repeat=2):
            self.assertIs(key_of(one) == key_of(other), one == other, (one, other))

    def test_very_deep_trees(self):
        deep = [(), ()]
        for _ in range(5000):
            deep = [("+", tree, "x") for tree in deep]
        self.assertEqual(key_of(deep[0]), key_of(deep[1]))
        self.assertNotEqual(key_of(deep[0]), key_of(deep[0][1]))

    def test_numbers_of_keys(self):
        self.assertEqual(numbered(["b", "a", "b", (1,), "a"]), [0, 1, 0, 2, 1])
        self.assertEqual(numbered([]), [])


class Listed(unittest.TestCase):
    def test_the_order_of_the_text(self):
        ask = [("ask", "a", str(at)) for at in range(5)]
        loop = ("while", "a", helpers.ONE, (ask[1], ask[2]))
        fork = ("if", "a", helpers.ONE, (loop,), (ask[3],))
        self.assertEqual(listed((ask[0], fork, ask[4])),
                         [(ask[0], 0), (fork, 0), (loop, 0), (ask[1], 1), (ask[2], 1), (ask[3], 0), (ask[4], 0)])


if __name__ == "__main__":
    unittest.main()
