"""Points 4 to 6: print_value and print_tree."""

import itertools
import random
import unittest

import helpers
from helpers import ONE
from onescore.printer import print_tree, print_value
from onescore.reader import read_tree

N = "N" + "n" * 19
SIGNS = ("<", "==", "+", "-", "*")
# Around which part signs beside which sign brackets stand, by the words of the interface.
LEFT = {sign: {"<", "=="} for sign in SIGNS} | {"*": {"<", "==", "+", "-"}}
RIGHT = {"<": {"<", "=="}, "==": {"<", "=="}, "+": {"<", "==", "+", "-"}, "-": {"<", "==", "+", "-"}, "*": set(SIGNS)}


def read_value(text):
    return read_tree("ends a play { a sets x = " + text + " }")[2][0][3]


def plain_print(tree):
    """The text of a value, by the words of the interface."""
    if tree[0] in ("number", "name"):
        return str(tree[1])
    sign, left, right = tree
    left_text, right_text = plain_print(left), plain_print(right)
    if left[0] in LEFT[sign]:
        left_text = f"({left_text})"
    if right[0] in RIGHT[sign]:
        right_text = f"({right_text})"
    return f"{left_text} {sign} {right_text}"


class Values(unittest.TestCase):
    def test_numbers_and_names(self):
        self.assertEqual(print_value(("number", 0)), "0")
        self.assertEqual(print_value(("number", 4294967295)), "4294967295")
        self.assertEqual(print_value(("name", "a_1")), "a_1")

    def test_each_sign(self):
        for sign in SIGNS:
            self.assertEqual(print_value((sign, ("name", "x"), ONE)), f"x {sign} 1")

    def test_each_sign_inside_of_each_other_one(self):
        x, y, z = ("name", "x"), ("name", "y"), ("name", "z")
        for outer, inner in itertools.product(SIGNS, repeat=2):
            text = print_value((outer, (inner, x, y), z))
            self.assertEqual(text, f"(x {inner} y) {outer} z" if inner in LEFT[outer] else f"x {inner} y {outer} z")
            text = print_value((outer, x, (inner, y, z)))
            self.assertEqual(text, f"x {outer} (y {inner} z)" if inner in RIGHT[outer] else f"x {outer} y {inner} z")

    def test_some_texts(self):
        for text in ("1 - (2 - 3)", "1 - 2 - 3", "(1 + 2) * 3", "1 + 2 * 3", "1 * 2 * 3", "1 * (2 * 3)",
                     "(1 < 2) + 3", "1 + (2 == 3)", "1 + 2 < 3 * 4", "(1 < 2) == (3 < 4)", "1 - (2 + 3) * 4"):
            self.assertEqual(print_value(read_value(text)), text)

    def test_random_values(self):
        rng = random.Random(3)
        for _ in range(1500):
            tree = helpers.random_value(rng, 4)
            text = print_value(tree)
            self.assertEqual(text, plain_print(tree))
            self.assertEqual(read_value(text), tree)

    def test_values_of_very_many_signs(self):
        text = "1" + " + x" * 1400
        self.assertEqual(print_value(read_value(text)), text)
        tree = ONE
        for _ in range(3000):
            tree = ("-", ONE, tree)
        self.assertEqual(print_value(tree), "1 - (" * 2999 + "1 - 1" + ")" * 2999)


TREES = (
    "ends a play { }",
    "ends a, b part p(x) { } part q(x, y) { x asks n call p(y) } play { call q(b, a) }",
    "ends a, b play { a -> b: k(n + 1 < 2) as m a sets x = 1 b sets y = x a asks if_ b asks y1 call p(a, b) }",
    "ends a play { if a: 1 { } else { } while a: x { } if a: (1 < 2) * 3 { a asks n } else { a asks m } a asks n }",
    "ends a play { while a: 1 { while a: 2 { if a: 3 { } else { while a: 4 { } a sets x = (1) } } a sets y = 7 } }",
    "ends a play { a sets x = 1 a sets y = x a sets z = (1 < x) + 1 a asks x if a: x { } else { } while a: 1 { } }",
)


class Trees(unittest.TestCase):
    def assert_printed(self, tree):
        text = print_tree(tree)
        self.assertIsInstance(text, str)
        self.assertEqual(read_tree(text), tree)
        return text

    def test_each_kind_of_tree(self):
        for text in TREES:
            self.assert_printed(read_tree(text))

    def test_each_statement_behind_each_other_one(self):
        statements = (("message", "a", "b", "k", ("name", "n"), "m"), ("set", "a", "x", ONE),
                      ("set", "a", "x", ("name", "y")), ("set", "a", "x", ("-", ONE, ("-", ONE, ONE))),
                      ("ask", "b", "y"), ("if", "a", ("name", "n"), (), ()), ("while", "a", ONE, ()),
                      ("call", "p", ("a",)))
        for block in itertools.product(statements, repeat=2):
            self.assert_printed((("a", "b"), (), block))
            self.assert_printed((("a", "b"), (("p", ("a", "b"), block),), (("while", "a", ONE, block),)))
            self.assert_printed((("a",), (), (("if", "a", ONE, block, block[::-1]),)))

    def test_random_trees(self):
        rng = random.Random(4)
        for _ in range(300):
            block = helpers.random_block(rng, ("a", "b", "c"), 20, values=lambda rng: helpers.random_value(rng, 3))
            parts = tuple((f"p{at}", ("a", "b", "c"), helpers.random_block(rng, ("a", "b", "c"), 5))
                          for at in range(rng.randint(0, 3)))
            self.assert_printed((("a", "b", "c"), parts, block + (("call", "p0", ("a",)),)))

    def test_deepest_blocks(self):
        block = ()
        for at in range(12):
            self.assert_printed((("a",), (), block))
            block = (("if", "a", ONE, (), block),) if at % 2 else (("while", "a", ONE, block), ("ask", "a", "x"))

    def test_at_most_6000_characters(self):
        names = tuple(sign + "n" * 19 for sign in "ABCDEF")
        value = ("+", ("name", "x" * 8), ("name", "y" * 9))
        self.assertEqual(len(print_value(value)), 20)
        five = (("p" * 20, names[:5], ()),)
        deep = ()
        for at in range(11):
            deep = (("if", N, value, (("message", N, N, N, value, N),), deep),)
        for block, parts in (((("message", N, N, N, value, N),) * 40, ()), ((("if", N, value, (), ()),) * 40, ()),
                             ((("set", N, N, value),) * 40, ()), ((("while", N, value, ()),) * 40, ()),
                             (deep + (("message", N, N, N, value, N),) * 18, ()),
                             ((("ask", N, N),) * 40, ()), ((("call", "p" * 20, names[:5]),) * 40, five)):
            self.assertLessEqual(len(self.assert_printed((names, parts, block))), 6000)

    def test_calls_with_six_ends_fit_as_long_as_any_text_of_them_does(self):
        names = tuple(sign + "n" * 19 for sign in "ABCDEF")
        tree = (names, (("p" * 20, names, ()),), (("call", "p" * 20, names),) * 37)
        self.assertLessEqual(len(self.assert_printed(tree)), 6000)

    def test_very_deep_blocks_have_a_text(self):
        block = ()
        for _ in range(2000):
            block = (("while", "a", ONE, block),)
        self.assertEqual(print_tree((("a",), (), block)).count("{"), 2001)


if __name__ == "__main__":
    unittest.main()
