"""Point 8: played out scores."""

import random
import unittest

import helpers
from helpers import ONE, ZERO
from onescore.errors import InvalidScore, SyntaxProblem
from onescore.flat import Score, read_score


def played(tree):
    """The block of a tree without calls, by putting in blocks as the document says."""
    ends, parts, block = tree
    blocks = {name: (parameters, inner) for name, parameters, inner in parts}

    def put(statements, names):
        found = ()
        for statement in statements:
            if statement[0] == "call":
                parameters, inner = blocks[statement[1]]
                found += put(inner, dict(zip(parameters, [names[end] for end in statement[2]])))
            elif statement[0] == "message":
                found += (("message", names[statement[1]], names[statement[2]]) + statement[3:],)
            elif statement[0] in ("if", "while"):
                found += ((statement[0], names[statement[1]], statement[2]) +
                          tuple(put(inner, names) for inner in statement[3:]),)
            else:
                found += ((statement[0], names[statement[1]]) + statement[2:],)
        return found

    return put(block, {end: end for end in ends})


def flat(block):
    """The statements and next positions of a block without calls."""
    rows, goals = [], {}

    def number(statements):
        numbers = []
        for statement in statements:
            at = len(rows)
            inner = statement[3:] if statement[0] in ("if", "while") else ()
            rows.append(statement[:3] if inner else statement)
            numbers.append((at, statement[0], [number(part) for part in inner]))
        return numbers

    def go(numbers, after):
        for (at, kind, inner), (behind, *_) in zip(numbers, numbers[1:] + [(after,)]):
            if kind == "if":
                goals[at] = tuple(part[0][0] if part else behind for part in inner)
                for part in inner:
                    go(part, behind)
            elif kind == "while":
                goals[at] = (inner[0][0][0] if inner[0] else at, behind)
                go(inner[0], at)
            else:
                goals[at] = (behind,)

    numbers = number(block)
    go(numbers, len(rows))
    return tuple(rows), tuple(goals[at] for at in range(len(rows)))


def with_parts(rng, block):
    """A tree that plays out to about this block, with parts that exchange ends."""
    parts = []

    def pack(statements):
        packed = tuple(statement[:3] + tuple(pack(inner) for inner in statement[3:])
                       if statement[0] in ("if", "while") else statement for statement in statements)
        if rng.random() < 0.5:
            at = rng.randint(0, len(packed))
            name = f"p{len(parts)}"
            ends = rng.choice([("a", "b", "c"), ("b", "a", "c"), ("c", "a", "b")])
            parts.append((name, ("a", "b", "c"), packed[at:]))
            packed = packed[:at] + (("call", name, ends),)
        return packed

    block = pack(block)
    return (("a", "b", "c"), tuple(parts), block)


class Played(unittest.TestCase):
    def test_example(self):
        score = read_score("ends a, b play { while a: n { a -> b: more(n) as k a sets n = n - 1 } "
                           "a -> b: stop(0) as k }")
        self.assertEqual((len(score.statements), score.next), (4, ((1, 3), (2,), (0,), (4,))))

    def test_each_statement(self):
        score = read_score("ends a, b play { a -> b: k(n) as m b sets x = 1 a asks y if b: 0 { } else { } "
                           "while a: n { } }")
        self.assertEqual(score.ends, ("a", "b"))
        self.assertEqual(score.statements, (("message", "a", "b", "k", ("name", "n"), "m"), ("set", "b", "x", ONE),
                                            ("ask", "a", "y"), ("if", "b", ZERO), ("while", "a", ("name", "n"))))
        self.assertEqual(score.next, ((1,), (2,), (3,), (4, 4), (4, 5)))

    def test_nothing(self):
        score = read_score("ends a, b play { }")
        self.assertEqual((score.ends, score.statements, score.next), (("a", "b"), (), ()))

    def test_empty_blocks(self):
        self.assertEqual(read_score("ends a play { if a: 1 { } else { a asks x } }").next, ((2, 1), (2,)))
        self.assertEqual(read_score("ends a play { if a: 1 { a asks x } else { } a asks y }").next, ((1, 2), (2,), (3,)))
        self.assertEqual(read_score("ends a play { while a: 1 { } }").next, ((0, 1),))
        self.assertEqual(read_score("ends a play { while a: 1 { if a: 1 { } else { } } }").next, ((1, 2), (0, 0)))
        self.assertEqual(read_score("ends a play { while a: 1 { while a: 1 { } } }").next, ((1, 2), (1, 0)))

    def test_the_end_of_a_block_at_the_end_of_a_block(self):
        text = "ends a play { while a: 1 { if a: 2 { if a: 3 { a asks x } else { while a: 4 { a asks y } } } else { } } }"
        self.assertEqual(read_score(text).next, ((1, 6), (2, 0), (3, 4), (0,), (5, 0), (4,)))

    def test_parts_that_call_parts_with_exchanged_ends(self):
        text = ("ends a, b part p(x, y) { x -> y: k(1) as n call q(y, x) } "
                "part q(a, b) { if a: n { a asks b } else { call r(b, a) } } part r(b, a) { b -> a: m(a) as b } "
                "play { call p(a, b) while b: 0 { call p(b, a) } }")
        n, a = ("name", "n"), ("name", "a")
        score = read_score(text)
        self.assertEqual(score.statements, (
            ("message", "a", "b", "k", ONE, "n"), ("if", "b", n), ("ask", "b", "b"),
            ("message", "a", "b", "m", a, "b"), ("while", "b", ZERO), ("message", "b", "a", "k", ONE, "n"),
            ("if", "a", n), ("ask", "a", "b"), ("message", "b", "a", "m", a, "b")))
        self.assertEqual(score.next, ((1,), (2, 3), (4,), (4,), (5, 9), (6,), (7, 8), (4,), (4,)))

    def test_calls_of_parts_without_statements(self):
        text = "ends a part p(x) { } part q(x) { call p(x) call p(x) } " \
               "play { call q(a) if a: 1 { call q(a) } else { call p(a) a asks x call q(a) } while a: 1 { call q(a) } }"
        self.assertEqual(read_score(text).next, ((2, 1), (2,), (2, 3)))

    def test_random_trees_against_putting_blocks_in(self):
        for seed in range(400):
            rng = random.Random(seed)
            tree = with_parts(rng, helpers.random_block(rng, ("a", "b", "c"), rng.randint(0, 14)))
            if helpers.broken_rule(tree) is None:
                score = Score(tree)
                self.assertEqual((score.statements, score.next), flat(played(tree)), seed)

    def test_many_ifs_inside_of_each_other(self):
        parts = [("p0", ("a",), (("ask", "a", "x"),))]
        for at in range(1, 150):
            parts.append((f"p{at}", ("a",), (("if", "a", ONE, (("call", f"p{at - 1}", ("a",)),), ()),)))
        score = Score((("a",), tuple(parts), (("call", "p149", ("a",)),)))
        self.assertEqual(len(score.statements), 150)
        self.assertEqual(score.next, tuple((at + 1, 150) for at in range(149)) + ((150,),))

    def test_a_value_of_very_many_signs(self):
        score = read_score("ends a play { a sets x = 1" + "+1" * 2000 + " if a: 1" + "+1" * 900 + " { } else { } }")
        self.assertEqual([row[0] for row in score.statements], ["set", "if"])


class Errors(unittest.TestCase):
    def test_a_tree_that_breaks_a_rule(self):
        for tree, rule in (((("a", "a"), (), ()), "ends"), ((("a",), (), (("call", "p", ("a",)),)), "call"),
                           ((("a",), (), (("ask", "a", "x"),) * 151), "large")):
            with self.assertRaises(InvalidScore) as caught:
                Score(tree)
            self.assertEqual(caught.exception.rule, rule)

    def test_reading(self):
        with self.assertRaises(SyntaxProblem) as caught:
            read_score("ends a, a play { ")
        self.assertEqual(caught.exception.start, 16)
        with self.assertRaises(InvalidScore) as caught:
            read_score("ends a, a play { }")
        self.assertEqual(caught.exception.rule, "ends")

    def test_syntax_goes_before_rules(self):
        with self.assertRaises(SyntaxProblem) as caught:
            read_score("ends a, a play { z asks x } }")
        self.assertEqual(caught.exception.start, 28)


if __name__ == "__main__":
    unittest.main()
