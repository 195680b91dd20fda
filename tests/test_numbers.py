"""Points 6 and 17: the number of a tree of a value."""

import copy
import random
import unittest

from helpers import MOST, ONE, ZERO, plain_number
from onescore.numbers import number_of
from onescore.reader import read_tree


def number(n):
    return ("number", n)


def value(text):
    """The tree of a value that is written."""
    return read_tree("ends a play { a sets x = " + text + " }")[2][0][3]


def random_tree(rng, depth):
    if depth == 0 or rng.random() < 0.2:
        return rng.choice([number(rng.choice([0, 1, 2, 7, 65536, MOST - 1, MOST])), ("name", rng.choice("xyz"))])
    return (rng.choice(["<", "==", "+", "-", "*"]), random_tree(rng, depth - 1), random_tree(rng, depth - 1))


class Numbers(unittest.TestCase):
    def test_numbers_and_names(self):
        self.assertEqual(number_of(ZERO, {}), 0)
        self.assertEqual(number_of(number(MOST), {}), MOST)
        self.assertEqual(number_of(("name", "x"), {"x": 5, "y": 6}), 5)
        self.assertEqual(number_of(("name", "x"), {"x": MOST}), MOST)
        self.assertEqual(number_of(("name", "x"), {"y": 6}), 0)
        self.assertEqual(number_of(("name", "number"), {"number": 3}), 3)

    def test_each_sign(self):
        for sign, expected in (("+", 9), ("-", 5), ("*", 14), ("<", 0), ("==", 0)):
            self.assertEqual(number_of((sign, number(7), number(2)), {}), expected, sign)
        for left, right, less, same in ((1, 2, 1, 0), (2, 2, 0, 1), (3, 2, 0, 0), (0, MOST, 1, 0), (MOST, 0, 0, 0)):
            self.assertEqual(number_of(("<", number(left), number(right)), {}), less)
            self.assertEqual(number_of(("==", number(left), number(right)), {}), same)

    def test_answers_are_integers(self):
        for sign in ("<", "=="):
            for left in (ZERO, ONE):
                self.assertIs(type(number_of((sign, left, ONE), {})), int)

    def test_below_0_and_above_the_greatest_number(self):
        self.assertEqual(number_of(("-", ZERO, ONE), {}), MOST)
        self.assertEqual(number_of(("-", ZERO, number(MOST)), {}), 1)
        self.assertEqual(number_of(("+", number(MOST), ONE), {}), 0)
        self.assertEqual(number_of(("+", number(MOST), number(MOST)), {}), MOST - 1)
        self.assertEqual(number_of(("*", number(65536), number(65536)), {}), 0)
        self.assertEqual(number_of(("*", number(MOST), number(MOST)), {}), 1)

    def test_each_step_is_modulo(self):
        self.assertEqual(number_of(value("0 - 1 < 1"), {}), 0)
        self.assertEqual(number_of(value("4294967295 + 1 < 1"), {}), 1)
        self.assertEqual(number_of(value("(0 - 1) * (0 - 1) == 1"), {}), 1)
        self.assertEqual(number_of(value("65536 * 65536 == 0"), {}), 1)

    def test_numbers_beyond_the_greatest_one(self):
        self.assertEqual(number_of(number(MOST + 1), {}), 0)
        self.assertEqual(number_of(("name", "x"), {"x": MOST + 3}), 2)
        self.assertEqual(number_of(("<", number(MOST + 1), ONE), {}), 1)

    def test_left_and_right(self):
        self.assertEqual(number_of(value("10 - 4 - 3"), {}), 3)
        self.assertEqual(number_of(value("10 - (4 - 3)"), {}), 9)
        self.assertEqual(number_of(value("2 + 3 * 4"), {}), 14)
        self.assertEqual(number_of(value("(2 + 3) * 4"), {}), 20)
        self.assertEqual(number_of(value("x - y"), {"x": 9, "y": 2}), 7)

    def test_random_trees(self):
        rng = random.Random(1)
        for _ in range(3000):
            tree = random_tree(rng, 4)
            variables = {name: rng.choice([0, 1, 3, MOST]) for name in rng.sample("xyz", 2)}
            self.assertEqual(number_of(tree, variables), plain_number(tree, variables))

    def test_values_of_very_many_signs(self):
        left = right = ("name", "x")
        for _ in range(20000):
            left = ("+", left, ("name", "x"))
            right = ("-", ("name", "y"), right)
        self.assertEqual(number_of(left, {"x": 3}), 60003)
        self.assertEqual(number_of(right, {"x": 3, "y": 5}), 3)
        self.assertEqual(number_of(value(" + ".join(["x"] * 1400)), {"x": MOST}), MOST + 1 - 1400)

    def test_the_variables_stay_as_they_were(self):
        variables = {"x": 4}
        tree = value("x + y * x")
        kept = copy.deepcopy((variables, tree))
        number_of(tree, variables)
        self.assertEqual((variables, tree), kept)


if __name__ == "__main__":
    unittest.main()
