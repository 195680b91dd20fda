"""Points 32 and 33: mended scores, their tells, and their plain runs."""

import copy
import random
import time
import unittest

import helpers
from helpers import MOST, ONE, SlowRun, ZERO, blocks_of, broken_rule, random_block
from onescore.clear import witness
from onescore.errors import InvalidScore
from onescore.flat import Score
from onescore.mend import mended
from onescore.printer import print_tree
from onescore.reader import read_tree


def mend(text):
    return mended(read_tree(text))


def play_out(tree):
    """The block of a tree with the blocks of parts in the place of their calls."""
    parts = {part[0]: part for part in tree[1]}

    def block(statements, names):
        found = ()
        for statement in statements:
            kind = statement[0]
            if kind == "call":
                _, parameters, inner = parts[statement[1]]
                found += block(inner, dict(zip(parameters, [names[end] for end in statement[2]])))
            elif kind == "message":
                found += ((kind, names[statement[1]], names[statement[2]]) + statement[3:],)
            elif kind in ("if", "while"):
                found += ((kind, names[statement[1]], statement[2]) +
                          tuple(block(inner, names) for inner in statement[3:]),)
            else:
                found += ((kind, names[statement[1]]) + statement[2:],)
        return found
    return block(tree[2], {end: end for end in tree[0]})


def statements_in(block):
    for statement in block:
        yield statement
        for inner in blocks_of(statement):
            yield from statements_in(inner)


def names_in_value(tree):
    if tree[0] == "name":
        return {tree[1]}
    return set() if tree[0] == "number" else names_in_value(tree[1]) | names_in_value(tree[2])


def names_of(tree):
    """The labels and the variables of a tree, those of its parts, too."""
    labels, variables = set(), set()
    for block in [part[2] for part in tree[1]] + [tree[2]]:
        for statement in statements_in(block):
            kind = statement[0]
            if kind == "message":
                labels.add(statement[3])
                variables |= {statement[5]} | names_in_value(statement[4])
            elif kind in ("set", "ask"):
                variables |= {statement[2]} | (names_in_value(statement[3]) if kind == "set" else set())
            elif kind != "call":
                variables |= names_in_value(statement[2])
    return labels, variables


def is_tell(statement, variables):
    return statement[0] == "message" and statement[5] not in variables


def without(block, is_left_out):
    """A block without some of its messages."""
    return tuple(statement[:3] + tuple(without(inner, is_left_out) for inner in statement[3:])
                 if statement[0] in ("if", "while") else statement for statement in block if not is_left_out(statement))


def leading(block, variables):
    """The tells at the beginning of a block."""
    found = []
    for statement in block:
        if not is_tell(statement, variables):
            break
        found.append(statement)
    return found


class Mended(unittest.TestCase):
    def tells_of(self, block, variables):
        """A list of (decider, yes tells, no tells) of all ifs and whiles; asserts that tells stand nowhere else."""
        found, placed = [], []
        for at, statement in enumerate(block):
            if statement[0] == "if":
                yes, no = (leading(inner, variables) for inner in statement[3:])
            elif statement[0] == "while":
                yes, no = leading(statement[3], variables), leading(block[at + 1:], variables)
                placed += no
            else:
                continue
            found.append((statement[1], yes, no))
            for inner, told in zip(statement[3:], (yes, no)):
                found += self.tells_of(inner[len(told):], variables)
        left = [statement for statement in block if is_tell(statement, variables)]
        self.assertEqual(left, placed)
        return found

    def assert_mended(self, tree, found):
        ends, parts, block = found
        labels, variables = names_of(tree)
        self.assertEqual((ends, parts), (tree[0], ()))
        self.assertEqual(without(block, lambda statement: is_tell(statement, variables)), play_out(tree))
        self.assertIsNone(witness(Score(found)))
        used = []
        told_ends = set()
        for decider, yes, no in self.tells_of(block, variables):
            for tells in (yes, no):
                for tell in tells:
                    self.assertEqual((tell[1], tell[4]), (decider, ZERO))
                    self.assertNotIn(tell[3], labels)
            self.assertEqual([tell[2] for tell in yes], [tell[2] for tell in no])
            self.assertEqual(len({tell[2] for tell in yes}), len(yes))
            told_ends |= {tell[2] for tell in yes}
            used += [{tell[3] for tell in tells} for tells in (yes, no)]
        self.assertEqual(sum(len(names) for names in used), len(set().union(*used)))
        for end in told_ends:
            less = without(block, lambda statement: is_tell(statement, variables) and statement[2] == end)
            score = Score((ends, (), less))
            self.assertFalse(helpers.plain_clear(score, end), end)
        return told_ends

    def test_a_clear_score_gets_no_tell(self):
        for text in ("ends a, b play { }", "ends a, b play { if a: 1 { a asks x } else { } }",
                     "ends a, b play { while a: 1 { a -> b: x(0) as n } a -> b: y(0) as n }"):
            self.assertEqual(mend(text), read_tree(text))
        for seed in range(100):
            tree = helpers.talk(seed)[0]
            self.assertEqual(mended(tree), tree)

    def test_a_score_that_is_unclear_for_one_end(self):
        tree = read_tree("ends a, b, c play { if a: n { b asks x } else { } c asks x }")
        found = mended(tree)
        self.assertEqual(self.assert_mended(tree, found), {"b"})
        (_, _, _, yes, no), _ = found[2]
        self.assertEqual([statement[:3] for statement in yes], [("message", "a", "b"), ("ask", "b", "x")])
        self.assertEqual([statement[:3] for statement in no], [("message", "a", "b")])
        self.assertNotEqual(yes[0][3], no[0][3])

    def test_a_while_that_one_end_must_be_told_of(self):
        for text, many in (("ends a, b, c play { while a: n { b asks x } }", 2),
                           ("ends a, b, c play { while a: n { b asks x } c asks y }", 3),
                           ("ends a, b, c play { c asks y if a: 1 { while a: n { b asks x } } else { } c asks z }", 4)):
            tree = read_tree(text)
            found = mended(tree)
            self.assertEqual(self.assert_mended(tree, found), {"b"})
        found = mend("ends a, b, c play { while a: n { b asks x } c asks y }")
        self.assertEqual([statement[0] for statement in found[2]], ["while", "message", "ask"])
        self.assertEqual([statement[0] for statement in found[2][0][3]], ["message", "ask"])

    def test_several_ends_are_told(self):
        tree = read_tree("ends a, b, c, d play { if a: n { b asks x c asks x } else { } while d: n { c asks y } }")
        found = mended(tree)
        self.assertEqual(self.assert_mended(tree, found), {"b", "c"})

    def test_tells_can_make_it_necessary_to_tell_others(self):
        # b decides without knowing how a did: that is clear until it has to tell c with different labels.
        text = ("ends a, b, c play { if a: n { if b: m { c asks x } else { } } else { if b: m { c asks y } else { } } }")
        tree = read_tree(text)
        self.assertTrue(helpers.plain_clear(Score(tree), "b"))
        found = mended(tree)
        self.assertEqual(self.assert_mended(tree, found), {"b", "c"})

    def test_parts_and_calls(self):
        tree = read_tree("ends a, b, c part p(x, y) { while x: n { y asks m call q(y, x) } } part q(x, y) "
                         "{ if x: m { y sets m = 1 } else { } } play { call p(b, c) call p(a, c) call q(a, b) }")
        found = mended(tree)
        self.assert_mended(tree, found)
        self.assertEqual(mended(found), found)

    def test_names_that_are_used_already(self):
        plain = mend("ends a, b play { if a: n { b asks x } else { } }")
        tell, other = plain[2][0][3][0], plain[2][0][4][0]
        for place in ("play { b asks {v} if a: n { b asks x } else { } }",
                      "play { b sets {v} = 1 if a: n { b asks x } else { } }",
                      "play { if a: {v} + n { b asks x } else { } }",
                      "play { if a: n { b sets x = 1 + 2 * (m - {v}) } else { } }",
                      "play { a -> b: {l}({v}) as y b -> a: {k}(1) as z if a: n { b asks x } else { } }",
                      "play { b -> a: {k}(1) as {v} a -> b: {l}(0) as z if a: n { b asks x } else { } }",
                      "part p(x) { x asks {v} } play { if a: n { b asks x } else { } }"):
            for variable in (tell[5], tell[5] + "_", "x"):
                text = place.replace("{v}", variable).replace("{l}", tell[3]).replace("{k}", other[3])
                tree = read_tree("ends a, b " + text)
                found = mended(tree)
                self.assert_mended(tree, found)
                self.assertEqual(read_tree(print_tree(found)), found)

    def test_names_that_are_used_several_times_over(self):
        names = set()
        block = (("if", "a", ("name", "n"), (("ask", "b", "x"),), ()),)
        for _ in range(5):
            tree = (("a", "b"), (), block + tuple(("message", "a", "b", name, ZERO, name) for name in sorted(names)))
            found = mended(tree)
            self.assert_mended(tree, found)
            new = {part for tell in (found[2][0][3][0], found[2][0][4][0]) for part in (tell[3], tell[5])}
            self.assertEqual(new & names, set())
            names |= new

    def test_tells_can_be_read_as_text(self):
        for seed in range(60):
            found = mended(random_tree(seed))
            self.assertEqual(read_tree(print_tree(found)), found)

    def test_random_scores(self):
        told = {}
        for seed in range(500):
            tree = random_tree(seed)
            many = len(self.assert_mended(tree, mended(tree)))
            told[many] = told.get(many, 0) + 1
        self.assertEqual(sorted(told), [0, 1, 2, 3, 4])
        self.assertGreater(min(told[many] for many in (0, 1, 2, 3)), 20)

    def test_scores_of_six_ends(self):
        for seed in range(40):
            tree = random_tree(seed, 6, 9)
            found = mended(tree)
            self.assert_mended(tree, found)
            self.assertEqual(mended(found), found)


def random_tree(seed, most_ends=4, many=7):
    rng = random.Random(seed)
    ends = tuple("abcdef"[:rng.randint(2, most_ends)])
    return (ends, (), random_block(rng, ends, many))


class Errors(unittest.TestCase):
    def rule(self, tree):
        kept = copy.deepcopy(tree)
        try:
            mended(tree)
        except InvalidScore as problem:
            self.assertEqual(tree, kept)
            return problem.rule
        return None

    def test_the_rules_of_scores(self):
        for text in ("ends a, a play { }", "ends a, b, c, d, e, f, g play { }",
                     "ends a part p(x) { } part p(x) { } play { }", "ends a part p(x, x) { } play { }",
                     "ends a, b play { call p(a) }", "ends a play { b asks x }", "ends a play { a -> a: k(1) as x }",
                     "ends a part p(x) { call p(x) } play { }",
                     "ends a play { while a: 1 { while a: 1 { while a: 1 { while a: 1 { } } } } }",
                     "ends a play { " + "a asks x " * 151 + "}"):
            tree = read_tree(text)
            self.assertIsNotNone(broken_rule(tree))
            self.assertEqual(self.rule(tree), broken_rule(tree))

    def with_asks(self, many, text="if a: n { b asks x } else { }"):
        return read_tree("ends a, b play { " + "a asks n " * many + text + " }")

    def test_150_statements_are_enough(self):
        self.assertIsNone(self.rule(self.with_asks(146)))
        self.assertEqual(len(Score(mended(self.with_asks(146))).statements), 150)
        for many in (147, 148):
            self.assertIsNone(broken_rule(self.with_asks(many)))
            self.assertEqual(self.rule(self.with_asks(many)), "large")
        self.assertIsNone(self.rule(read_tree("ends a, b play { " + "a asks n " * 150 + "}")))

    def test_150_statements_with_a_while(self):
        text = "while a: n { b asks x }"
        self.assertEqual(len(Score(mended(self.with_asks(146, text))).statements), 150)
        self.assertEqual(self.rule(self.with_asks(147, text)), "large")

    def test_many_tells(self):
        start = time.perf_counter()
        for many, rule in ((37, None), (38, "large"), (75, "large")):
            tree = read_tree("ends a, b play { " + "if a: n { b asks x } else { } " * many + "}")
            self.assertEqual(self.rule(tree), rule)
        tree = read_tree("ends a, b, c, d, e, f play { " + "if a: n { b asks x c asks x } else { d asks x e asks x "
                         "f asks x } " * 9 + "}")
        self.assertIsNone(witness(Score(mended(tree))))
        self.assertLess(time.perf_counter() - start, 10)


class Runs(unittest.TestCase):
    def test_the_plain_run_of_a_mended_score(self):
        changed = 0
        for seed in range(200):
            rng = random.Random(seed)
            ends = tuple("abcd"[:rng.randint(2, 4)])
            tree = (ends, (), random_block(rng, ends, 7, values=helpers.talk_values))
            found = mended(tree)
            inputs = {end: [rng.choice([0, 1, 2, MOST]) for _ in range(3)] for end in ends}
            labels, variables = names_of(tree)
            old, new = SlowRun(tree, inputs), SlowRun(found, inputs)

            def shown(deeds):
                return [deed[:2] + deed[3:] if deed[0] == "while" else deed for deed in deeds
                        if not (deed[0] in ("send", "get") and deed[3] not in labels)]
            self.assertEqual(shown(new.deeds), shown(old.deeds))
            for end in ends:
                kept = {name: number for name, number in new.variables[end].items() if name in variables}
                self.assertEqual(kept, old.variables[end])
                self.assertTrue(all(number == 0 for name, number in new.variables[end].items()
                                    if name not in variables))
            changed += len(new.deeds) > len(old.deeds)
        self.assertGreater(changed, 80)

    def test_values_of_very_many_signs(self):
        deep = ONE
        for _ in range(3000):
            deep = ("+", deep, ("name", "told"))
        tree = (("a", "b"), (), (("if", "a", deep, (("ask", "b", "x"),), ()),))
        found = mended(tree)
        self.assertEqual(len(found[2][0][3]), 2)
        self.assertNotIn(found[2][0][3][0][5], ("told", "x"))


if __name__ == "__main__":
    unittest.main()
