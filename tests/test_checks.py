"""Point 7: the rules of a score, and the order of looking."""

import itertools
import time
import unittest

from helpers import ONE, broken_rule
from onescore.errors import InvalidScore
from onescore.checks import check_tree
from onescore.flat import Score
from onescore.reader import read_tree

ASK = ("ask", "a", "x")


def loops(many, inside=()):
    """A block of so many whiles inside of each other."""
    block = inside
    for _ in range(many):
        block = (("while", "a", ONE, block),)
    return block


def wrap(block, many):
    """A block inside of so many ifs."""
    for _ in range(many):
        block = (("if", "a", ONE, (), block),)
    return block


def message(sender, receiver):
    return ("message", sender, receiver, "k", ONE, "x")


# For each rule, in the order of looking: what breaks this rule alone. Each is a
# change of (ends, parts, block); several of them can be done to one tree.
BREAKS = {
    "ends": [lambda ends, parts, block: (ends + ("a",), parts, block),
             lambda ends, parts, block: (ends + tuple("uvwxyz"), parts, block)],
    "parts": [lambda ends, parts, block: (ends, parts + (("p", ("m",), ()),), block)],
    "parameters": [lambda ends, parts, block: (ends, parts + (("alike", ("m", "n", "m"), ()),), block)],
    "call": [lambda ends, parts, block: (ends, parts, block + (("call", "nowhere", ("a",)),)),
             lambda ends, parts, block: (ends, parts, block + (("call", "p", ("a", "b")),)),
             lambda ends, parts, block: (ends, parts, block + (("call", "p", ()),)),
             lambda ends, parts, block: (ends, parts, block + (("call", "two", ("a", "a")),))],
    "unknown": [lambda ends, parts, block: (ends, parts, block + (("ask", "stranger", "x"),)),
                lambda ends, parts, block: (ends, parts, block + (message("stranger", "a"),)),
                lambda ends, parts, block: (ends, parts, block + (message("a", "stranger"),)),
                lambda ends, parts, block: (ends, parts, block + (("set", "stranger", "x", ONE),)),
                lambda ends, parts, block: (ends, parts, block + (("if", "stranger", ONE, (), ()),)),
                lambda ends, parts, block: (ends, parts, block + (("while", "stranger", ONE, ()),)),
                lambda ends, parts, block: (ends, parts, block + (("call", "two", ("a", "stranger")),))],
    "self": [lambda ends, parts, block: (ends, parts, block + (message("a", "a"),)),
             lambda ends, parts, block: (ends, parts, block + wrap((message("b", "b"),), 4))],
    "circle": [lambda ends, parts, block: (ends, parts + (("round", ("m",), (("call", "round", ("m",)),)),), block),
               lambda ends, parts, block: (ends, parts + (
                   ("one", ("a",), (("call", "other", ("a",)),)),
                   ("other", ("a",), wrap((("call", "one", ("a",)),), 2))), block)],
    "loops": [lambda ends, parts, block: (ends, parts, block + loops(4)),
              lambda ends, parts, block: (ends, parts, block + loops(3, (("call", "loop", ("a",)),)))],
    "large": [lambda ends, parts, block: (ends, parts, block + (ASK,) * 151),
              lambda ends, parts, block: (ends, parts, block + (("call", "ten", ("a",)),) * 16)],
}
ORDER = list(BREAKS)


def right_tree():
    parts = (("p", ("m",), (("ask", "m", "x"),)),
             ("two", ("m", "n"), (("message", "m", "n", "k", ONE, "x"), ("call", "p", ("n",)))),
             ("loop", ("m",), (("while", "m", ONE, ()),)),
             ("ten", ("m",), (("ask", "m", "x"),) * 10))
    return (("a", "b"), parts, (ASK, ("call", "two", ("b", "a"))))


class Rules(unittest.TestCase):
    def test_a_right_tree(self):
        self.assertIsNone(check_tree(right_tree()))
        self.assertIsNone(check_tree((("a",), (), ())))

    def test_each_rule_broken_alone(self):
        for rule, changes in BREAKS.items():
            for at, change in enumerate(changes):
                with self.subTest(rule, at=at):
                    tree = change(*right_tree())
                    self.assertEqual(broken_rule(tree), rule)
                    with self.assertRaises(InvalidScore) as caught:
                        Score(tree)
                    self.assertEqual(caught.exception.rule, rule)

    def test_two_rules_broken_at_once(self):
        # Within the statements, it is the first statement that counts: see below.
        by_statement = ("call", "unknown", "self")
        for first, second in itertools.combinations(ORDER, 2):
            if first in by_statement and second in by_statement:
                continue
            for change, other in itertools.product(BREAKS[first], BREAKS[second]):
                self.assertEqual(broken_rule(change(*other(*right_tree()))), first, (first, second))
                self.assertEqual(broken_rule(other(*change(*right_tree()))), first, (second, first))

    def test_six_ends_are_enough(self):
        self.assertIsNone(broken_rule((tuple("abcdef"), (), ())))
        self.assertEqual(broken_rule((tuple("abcdefg"), (), ())), "ends")
        self.assertIsNone(broken_rule((("a",), (("p", tuple("abcdefgh"), ()),), ())))

    def test_a_part_may_have_the_name_of_an_end_and_parameters_those_of_ends(self):
        tree = (("a", "b"), (("a", ("b", "a"), (message("b", "a"),)),), (("call", "a", ("a", "b")),))
        self.assertIsNone(broken_rule(tree))


class Statements(unittest.TestCase):
    WRONG = {"call": ("call", "nowhere", ("a",)), "unknown": ("ask", "stranger", "x"), "self": message("b", "b")}

    def test_the_first_wrong_statement_counts(self):
        for first, second in itertools.permutations(self.WRONG, 2):
            one, two = self.WRONG[first], self.WRONG[second]
            for block in ((one, two), (("while", "a", ONE, (one, two)),), (("if", "a", ONE, (), (one, two)),),
                          (("if", "a", ONE, (one,), (two,)),), (("while", "a", ONE, (one,)), two),
                          (("if", "a", ONE, (), (ASK, one)), two), (one, ("if", "a", ONE, (two,), ()))):
                self.assertEqual(broken_rule((("a", "b"), (), block)), first, block)

    def test_a_statement_before_those_inside_of_it(self):
        for rule in self.WRONG:
            block = (("while", "stranger", ONE, (self.WRONG[rule],)),)
            self.assertEqual(broken_rule((("a", "b"), (), block)), "unknown")

    def test_parts_in_order_and_then_the_block(self):
        for first, second, third in itertools.permutations(self.WRONG):
            parts = (("p", ("a", "b"), (self.WRONG[first],)), ("q", ("a", "b"), (self.WRONG[second],)))
            self.assertEqual(broken_rule((("a", "b"), parts, (self.WRONG[third],))), first)

    def test_order_in_one_statement(self):
        parts = (("two", ("m", "n"), ()),)
        self.assertEqual(broken_rule((("a",), parts, (("call", "nowhere", ("z",)),))), "call")
        self.assertEqual(broken_rule((("a",), parts, (("call", "two", ("z", "z")),))), "call")
        self.assertEqual(broken_rule((("a",), parts, (("call", "two", ("z",)),))), "call")
        self.assertEqual(broken_rule((("a",), parts, (message("z", "z"),))), "unknown")

    def test_in_a_part_only_its_parameters_are_known(self):
        self.assertEqual(broken_rule((("a",), (("p", ("m",), (ASK,)),), ())), "unknown")
        self.assertEqual(broken_rule((("a",), (("p", ("m",), (("ask", "m", "x"),)),), (("ask", "m", "x"),))), "unknown")
        parts = (("p", ("m",), ()), ("q", ("n",), (("call", "p", ("a",)),)))
        self.assertEqual(broken_rule((("a",), parts, ())), "unknown")

    def test_names_of_parts_may_stand_before_the_parts(self):
        parts = (("q", ("n",), (("call", "p", ("n",)),)), ("p", ("m",), ()))
        self.assertIsNone(broken_rule((("a",), parts, (("call", "q", ("a",)),))))


class PlayedOut(unittest.TestCase):
    def test_circles_count_in_parts_that_are_not_called(self):
        text = "ends a part p(m) { call q(m) } part q(m) { if m: 1 { } else { call r(m) } } " \
               "part r(m) { call p(m) } play { }"
        self.assertEqual(broken_rule(read_tree(text)), "circle")
        self.assertIsNone(broken_rule(read_tree(text.replace("call p(m)", ""))))

    def test_whiles_inside_of_each_other(self):
        self.assertIsNone(broken_rule((("a",), (), loops(3))))
        self.assertIsNone(broken_rule((("a",), (), loops(1, loops(2) + loops(2)) + loops(3))))
        self.assertEqual(broken_rule((("a",), (), loops(4))), "loops")
        self.assertEqual(broken_rule((("a",), (), wrap(loops(2, wrap(loops(2), 1)), 1))), "loops")

    def test_whiles_inside_of_each_other_through_calls(self):
        inner = ("inner", ("a",), wrap(loops(1), 2))
        middle = ("middle", ("a",), loops(1, (("call", "inner", ("a",)), ASK)))
        for many, rule in ((1, None), (2, "loops")):
            block = loops(many, (("call", "middle", ("a",)),))
            self.assertEqual(broken_rule((("a",), (middle, inner), block)), rule)
            self.assertEqual(broken_rule((("a",), (inner, middle), wrap(block, 3))), rule)
        self.assertIsNone(broken_rule((("a",), (("empty", ("a",), ()),), loops(3, (("call", "empty", ("a",)),)))))

    def test_parts_that_are_not_called_are_not_played(self):
        parts = (("deep", ("a",), loops(5)), ("large", ("a",), (ASK,) * 500))
        self.assertIsNone(broken_rule((("a",), parts, ())))

    def test_150_statements(self):
        self.assertIsNone(broken_rule((("a",), (), (ASK,) * 150)))
        self.assertEqual(broken_rule((("a",), (), (ASK,) * 151)), "large")
        self.assertIsNone(broken_rule((("a",), (), wrap((ASK,) * 120, 30))))
        self.assertEqual(broken_rule((("a",), (), wrap((ASK,) * 121, 30))), "large")

    def test_150_statements_through_calls_which_do_not_count(self):
        parts = (("ten", ("a",), (ASK,) * 10), ("more", ("a",), (("call", "ten", ("a",)),) * 5 + loops(1)))
        block = (("call", "more", ("a",)),) * 2 + (ASK,) * 48
        self.assertIsNone(broken_rule((("a",), parts, block)))
        self.assertEqual(len(Score((("a",), parts, block)).statements), 150)
        self.assertEqual(broken_rule((("a",), parts, block + (ASK,))), "large")
        self.assertEqual(broken_rule((("a",), parts, (("call", "more", ("a",)),) * 3)), "large")

    def test_very_many_statements_are_told_at_once(self):
        for many, inside, rule in ((60, (ASK,), "large"), (60, loops(4), "loops"), (60, (), None), (200, (), None),
                                   (200, (ASK,), "large")):
            parts = [("p0", ("a", "b"), inside)]
            for at in range(1, many):
                call = ("call", f"p{at - 1}", ("b", "a"))
                parts.append((f"p{at}", ("a", "b"), (call, ("call", f"p{at - 1}", ("a", "b")), call)))
            for order in (parts, parts[::-1]):
                tree = (("a", "b"), tuple(order), (("call", f"p{many - 1}", ("a", "b")),))
                start = time.perf_counter()
                self.assertEqual(broken_rule(tree), rule)
                if rule is None:
                    self.assertEqual(Score(tree).statements, ())
                self.assertLess(time.perf_counter() - start, 2)

    def test_a_long_chain_of_parts(self):
        parts = [("p0", ("a",), (ASK,))]
        for at in range(1, 900):
            parts.append((f"p{at}", ("a",), (("call", f"p{at - 1}", ("a",)),)))
        score = Score((("a",), tuple(parts), (("call", "p899", ("a",)),)))
        self.assertEqual(score.statements, (ASK,))
        parts[0] = ("p0", ("a",), (("call", "p899", ("a",)),))
        self.assertEqual(broken_rule((("a",), tuple(parts), ())), "circle")


if __name__ == "__main__":
    unittest.main()
