"""Point 46: statements that may be exchanged."""

import random
import unittest

from helpers import ONE, ZERO, plain_clear, random_block, talk, talk_values
from onescore.clear import witness
from onescore.errors import InvalidScore
from onescore.exchange import exchanged, may_exchange
from onescore.flat import Score
from onescore.meaning import PlainRun

ENDS = ("a", "b", "c", "d")
STATEMENTS = {
    "message": ("message", "a", "b", "k", ONE, "x"),
    "message to": ("message", "c", "a", "k", ONE, "x"),
    "set": ("set", "a", "x", ONE),
    "ask": ("ask", "a", "x"),
    "if": ("if", "a", ONE, (), ()),
    "while": ("while", "a", ONE, ()),
    "if with more": ("if", "a", ONE, (("set", "b", "x", ONE),), (("ask", "c", "x"),)),
    "while with more": ("while", "a", ONE, (("message", "b", "c", "k", ONE, "x"),)),
}


def ends_of(statement):
    """The ends that a statement concerns, those inside of it counted in."""
    found = {statement[1]} | ({statement[2]} if statement[0] == "message" else set())
    for block in statement[3:] if statement[0] in ("if", "while") else ():
        for inner in block:
            found |= ends_of(inner)
    return found


def with_ends(statement, names):
    """A statement with other ends."""
    kind = statement[0]
    if kind == "message":
        return (kind, names[statement[1]], names[statement[2]]) + statement[3:]
    if kind in ("if", "while"):
        return (kind, names[statement[1]], statement[2]) + tuple(
            tuple(with_ends(inner, names) for inner in block) for block in statement[3:])
    return (kind, names[statement[1]]) + statement[2:]


def paths(block, before=()):
    """The paths to all statements of a block, with the block in which each one stands."""
    for index, statement in enumerate(block):
        yield before + (index,), block
        for branch, inner in enumerate(statement[3:] if statement[0] in ("if", "while") else ()):
            yield from paths(inner, before + (index, branch))


def plain_exchanged(block, path):
    """The block in which the statement at a path is exchanged with the next one."""
    index = path[0]
    rows = list(block)
    if len(path) == 1:
        rows[index], rows[index + 1] = rows[index + 1], rows[index]
    else:
        inner = list(rows[index])
        inner[3 + path[1]] = plain_exchanged(inner[3 + path[1]], path[2:])
        rows[index] = tuple(inner)
    return tuple(rows)


def tree_of(*block):
    return (ENDS, (), block)


def rows_without_positions(tree, inputs):
    rows = PlainRun(Score(tree), inputs).rows
    return {end: [deed[:2] + deed[3:] if deed[0] == "while" else deed for deed in row] for end, row in rows.items()}


class Exchange(unittest.TestCase):
    def check(self, tree, path, expected):
        self.assertIs(may_exchange(tree, path), expected, (tree, path))
        if expected:
            self.assertEqual(exchanged(tree, path), (tree[0], tree[1], plain_exchanged(tree[2], path)))
        else:
            with self.assertRaises(InvalidScore) as caught:
                exchanged(tree, path)
            self.assertEqual(caught.exception.rule, "exchange")

    def test_each_pair_of_kinds(self):
        for first in STATEMENTS.values():
            for second in STATEMENTS.values():
                self.check(tree_of(first, second), (0,), False)
                # The same with other ends: with none in common if there are enough of them, or with one.
                for names in ({"a": "d", "b": "c", "c": "b"}, {"a": "b", "b": "a", "c": "d"}, {"a": "c", "b": "d", "c": "a"},
                              {"a": "d", "b": "e", "c": "f"}):
                    other = with_ends(second, names)
                    tree = (("a", "b", "c", "d", "e", "f"), (), (first, other))
                    self.check(tree, (0,), not ends_of(first) & ends_of(other))
                    self.check((tree[0], (), (other, first)), (0,), not ends_of(first) & ends_of(other))

    def test_ends_in_common(self):
        message = ("message", "a", "b", "k", ONE, "x")
        for other, expected in ((("set", "c", "x", ONE), True), (("set", "a", "x", ONE), False), (("set", "b", "y", ONE), False),
                                (("ask", "d", "x"), True), (("ask", "b", "y"), False),
                                (("message", "c", "d", "k", ONE, "x"), True), (("message", "b", "c", "k", ONE, "x"), False),
                                (("message", "c", "a", "k", ONE, "x"), False), (("message", "a", "b", "k", ONE, "x"), False),
                                (("if", "c", ONE, (), ()), True), (("if", "a", ONE, (), ()), False),
                                (("while", "d", ONE, ()), True), (("while", "b", ONE, ()), False)):
            self.check(tree_of(message, other), (0,), expected)
            self.check(tree_of(other, message), (0,), expected)

    def test_statements_of_others_inside(self):
        set_c, ask_d = ("set", "c", "x", ONE), ("ask", "d", "x")
        for inner in (("set", "b", "x", ONE), ("ask", "b", "x"), ("message", "b", "a", "k", ONE, "x"),
                      ("if", "b", ONE, (), ()), ("while", "b", ONE, ()), ("while", "a", ONE, (("ask", "b", "x"),)),
                      ("if", "a", ONE, (), (("while", "a", ONE, (("if", "a", ONE, (("set", "b", "x", ONE),), ()),)),))):
            for outer in (("if", "a", ONE, (inner,), ()), ("if", "a", ONE, (), (inner,)), ("while", "a", ONE, (inner,)),
                          ("if", "a", ONE, (("set", "a", "x", ONE), inner), (("ask", "a", "x"),))):
                for other, expected in ((set_c, True), (ask_d, True), (("ask", "b", "y"), False), (("ask", "a", "y"), False),
                                        (("message", "c", "d", "k", ONE, "x"), True), (("message", "c", "b", "k", ONE, "x"), False),
                                        (("while", "c", ONE, (ask_d,)), True),
                                        (("while", "c", ONE, (("set", "b", "x", ONE),)), False)):
                    self.check(tree_of(outer, other), (0,), expected)
                    self.check(tree_of(other, outer), (0,), expected)

    def test_paths_to_each_depth(self):
        a, b = ("set", "a", "x", ONE), ("set", "b", "x", ONE)
        block = (a, b)
        tree, path = tree_of(*block), (0,)
        for at, wrap in enumerate([lambda inner: ("if", "a", ONE, inner, (b, a)), lambda inner: ("while", "b", ONE, inner),
                                   lambda inner: ("if", "a", ONE, (a, a), inner), lambda inner: ("while", "c", ONE, inner)] * 2):
            self.check(tree, path, True)
            self.check(tree, path[:-1] + (1,), False)
            block = (a, wrap(block), b) if at & 1 else (wrap(block),)
            path = (at & 1, 1 if at & 3 == 2 else 0) + path
            tree = tree_of(*block)
        self.check(tree, path, True)
        self.assertEqual(len(path), 17)

    def test_the_yes_and_the_no_block(self):
        a, b = ("set", "a", "x", ONE), ("set", "b", "x", ONE)
        tree = tree_of(("if", "a", ONE, (a, b), (b, b)), ("if", "b", ONE, (b, b, b), (a, b)), ("while", "c", ONE, (a, b, a)))
        self.check(tree, (0, 0, 0), True)
        self.check(tree, (0, 1, 0), False)
        self.check(tree, (1, 0, 0), False)
        self.check(tree, (1, 1, 0), True)
        self.check(tree, (2, 0, 0), True)
        self.check(tree, (2, 0, 1), True)
        self.check(tree, (2, 0, 2), False)
        self.check(tree, (0,), False)
        self.check(tree, (1,), False)

    def test_paths_that_lead_nowhere(self):
        a, b = ("set", "a", "x", ONE), ("set", "b", "x", ONE)
        tree = tree_of(a, b, ("message", "a", "b", "k", ONE, "x"), ("while", "c", ONE, (a, b)), ("if", "d", ONE, (a, b), (a, b)), b)
        for path in ((0,), (3, 0, 0), (4, 0, 0), (4, 1, 0)):
            self.check(tree, path, True)
        for path in ((), (4,), (5,), (6,), (99,), (-1,), (-2,), (-6,), (3, 1, 0), (3, -1, 0), (3, 2, 0), (4, 2, 0), (4, -1, 0), (4, -2, 0),
                     (2, 0, 0), (2, 1, 0), (2, 3, 0), (0, 0, 0), (0, 2, 0), (3, 0, 1), (3, 0, 2), (3, 0, -1), (3, 0, -2),
                     (4, 0, 1), (4, 1, 1), (4, 1, -2), (3, 0), (4, 0), (4, 1), (0, 0), (9, 0, 0), (-3, 0, 0), (3, 0, 0, 0),
                     (3, 0, 0, 0, 0), (4, 1, 0, 1, 0), (4, 1, 0, 0)):
            self.check(tree, path, False)
        self.check(tree_of(), (0,), False)
        self.check(tree_of(), (), False)
        self.check(tree_of(a), (0,), False)
        self.check(tree_of(("while", "a", ONE, ())), (0, 0, 0), False)

    def test_all_statements_of_random_trees(self):
        found = {True: 0, False: 0}
        for seed in range(200):
            rng = random.Random(seed)
            tree = (ENDS, (), random_block(rng, ENDS, 14))
            for path, block in paths(tree[2]):
                index = path[-1]
                expected = index + 1 < len(block) and not ends_of(block[index]) & ends_of(block[index + 1])
                found[expected] += 1
                self.check(tree, path, expected)
        self.assertGreater(min(found.values()), 100)

    def test_rows_and_clearness_stay(self):
        done = 0
        for seed in range(250):
            rng = random.Random(seed)
            if seed & 1:
                tree, inputs = talk(seed, many=9)
            else:
                tree = (ENDS, (), random_block(rng, ENDS, 12, values=talk_values))
                inputs = {end: [rng.choice([0, 1, 3]) for _ in range(3)] for end in ENDS}
            for path, _ in paths(tree[2]):
                if not may_exchange(tree, path):
                    continue
                done += 1
                other = exchanged(tree, path)
                self.assertEqual(rows_without_positions(other, inputs), rows_without_positions(tree, inputs), (seed, path))
                self.assertEqual(witness(Score(other)) is None, witness(Score(tree)) is None, (seed, path))
                if seed & 1 == 0 and done < 40:
                    self.assertEqual([plain_clear(Score(other), end) for end in ENDS],
                                     [plain_clear(Score(tree), end) for end in ENDS])
                # And back again.
                self.assertEqual(exchanged(other, path), tree)
        self.assertGreater(done, 100)

    def test_deep_values_stay(self):
        value = ZERO
        for _ in range(2000):
            value = ("+", value, ONE)
        first, second = ("set", "a", "x", value), ("set", "b", "x", value)
        block = exchanged(tree_of(first, second), (0,))[2]
        self.assertIs(block[0], second)
        self.assertIs(block[1], first)


if __name__ == "__main__":
    unittest.main()
