"""Points 36 to 38: code made from tables, and sound code."""

import random
import time
import unittest

from helpers import END, MOST, ONE, ZERO, random_told_score, random_value, plain_number, shuffled
from onescore.code import code_of, is_sound
from onescore.errors import Unclear
from onescore.flat import read_score
from onescore.machine import Machine
from onescore.tables import end_tables, paper

ENDS = ("a", "b", "c")
STOP = ("stop",)
X = ("name", "x")
SIGNS = ("<", "==", "+", "-", "*")
WORDS = {"<": "less", "==": "same", "+": "add", "-": "sub", "*": "mul"}
TABLES = [
    (END,),
    (("send", "b", "k", X, 1), END),
    (("get", "b", (("k", "x", 1),)), END),
    (("get", "b", (("k", "x", 1), ("l", "y", 0), ("m", "x", 2))), ("ask", "x", 2), END),
    (("set", "x", ("+", X, ONE), 0),),
    (("ask", "x", 1), ("set", "y", X, 0)),
    (("if", X, 1, 2), ("set", "x", ZERO, 0), END),
    (("if", X, 0, 0),),
    (("while", 0, X, 1, 2), ("ask", "x", 0), END),
    (("while", 7, X, 0, 1), ("while", 149, ONE, 1, 0)),
    (END, ("send", "b", "k", ZERO, 3), ("ask", "y", 2), ("get", "c", (("k", "x", 3),)), END),
    (("ask", "x", 3), END, ("if", X, 1, 0), ("while", 3, X, 2, 1)),
]


def values_in(state):
    return {"send": state[3:4], "set": state[2:3], "if": state[1:2], "while": state[2:3]}.get(state[0], ())


def signs_and_names(tree):
    """The number of signs and names in a value, counted without recursion."""
    many = 0
    waiting = [tree]
    while waiting:
        part = waiting.pop()
        many += part[0] != "number"
        if part[0] not in ("number", "name"):
            waiting.extend(part[1:])
    return many


def most_instructions(table):
    return 60 * (len(table) + sum(signs_and_names(value) for state in table for value in values_in(state)))


def computed(tree, variables):
    """What the code of a value puts into a variable."""
    table = (("ask", "x", 1), ("ask", "y", 2), ("set", "z", tree, 3), END)
    code = code_of(table)
    assert is_sound(("a",), code) and len(code) <= most_instructions(table), tree
    machine = Machine("a", code, [variables.get("x", 0), variables.get("y", 0)])
    deeds, taken = machine.run({}, 9)
    assert taken == {} and len(deeds) == 3 and machine.has_ended()
    return machine.variables()["z"]


def chain(sign, many, on_the_right, last=X):
    """A value with one sign many times, each one a part of the next one."""
    tree = last
    for at in range(many):
        part = (X, ONE, ("number", MOST - at), ("name", "y"))[at & 3]
        tree = (sign, part, tree) if on_the_right else (sign, tree, part)
    return tree


def chain_number(tree, variables):
    """The number of a tree of which at least one part of each sign is a number or a name."""
    def simple(part):
        return part[1] if part[0] == "number" else variables.get(part[1], 0)
    spine = []
    while tree[0] in SIGNS:
        right_is_deep = tree[2][0] in SIGNS
        spine.append((tree[0], simple(tree[1] if right_is_deep else tree[2]), right_is_deep))
        tree = tree[2] if right_is_deep else tree[1]
    number = simple(tree)
    for sign, other, is_right in spine[::-1]:
        pair = (("number", other), ("number", number)) if is_right else (("number", number), ("number", other))
        number = plain_number((sign,) + pair, {})
    return number


class Made(unittest.TestCase):
    def check(self, table, ends=ENDS):
        code = code_of(table)
        self.assertIsInstance(code, tuple)
        self.assertIs(is_sound(ends, code), True, table)
        self.assertLessEqual(len(code), most_instructions(table), table)

    def test_tables_of_all_kinds(self):
        for table in TABLES:
            self.check(table)

    def test_an_end_alone(self):
        machine = Machine("a", code_of((END,)), [])
        self.assertEqual(machine.run({}, 5), ([], {}))
        self.assertIs(machine.has_ended(), True)

    def test_tables_of_scores(self):
        checked = 0
        for seed in range(120):
            score = random_told_score(seed, most_ends=4, many=9, share=0.3)
            try:
                given = paper(score)
            except Unclear:
                continue
            rng = random.Random(seed)
            for end, (table, _) in given.items():
                checked += 1
                self.check(table, score.ends)
                self.check(end_tables(score)[end], score.ends)
                self.check(shuffled(rng, table, 3), score.ends)
        self.assertGreater(checked, 100)

    def test_the_ends_of_sound_code(self):
        code = code_of((("send", "b", "k", X, 1), ("get", "c", (("k", "x", 2),)), END))
        self.assertIs(is_sound(("b", "c"), code), True)
        self.assertIs(is_sound(("a", "b"), code), False)
        self.assertIs(is_sound(("c",), code), False)


class Values(unittest.TestCase):
    def test_each_sign(self):
        numbers = [0, 1, 2, 7, 65536, 2147483648, MOST - 1, MOST]
        for sign in SIGNS:
            for x in numbers:
                for y in numbers:
                    tree = (sign, X, ("name", "y"))
                    self.assertEqual(computed(tree, {"x": x, "y": y}), plain_number(tree, {"x": x, "y": y}), (tree, x, y))

    def test_numbers_and_names_alone(self):
        self.assertEqual(computed(("number", MOST), {}), MOST)
        self.assertEqual(computed(X, {"x": 5}), 5)
        self.assertEqual(computed(("name", "never"), {"x": 5}), 0)

    def test_random_values(self):
        for seed in range(300):
            rng = random.Random(seed)
            tree = random_value(rng, rng.choice([1, 3, 6]))
            variables = {name: rng.choice([0, 1, 2, 3, MOST, MOST - 1, 2147483648]) for name in "xy"}
            self.assertEqual(computed(tree, variables), plain_number(tree, variables), tree)

    def test_deep_values(self):
        variables = {"x": 5, "y": 3}
        for sign in SIGNS:
            for many in (1, 2, 3, 5, 12, 38, 39, 40, 41, 60, 300):
                for on_the_right in (False, True):
                    tree = chain(sign, many, on_the_right)
                    self.assertEqual(computed(tree, variables), chain_number(tree, variables), (sign, many, on_the_right))

    def test_deep_on_both_sides(self):
        rng = random.Random(5)
        for _ in range(60):
            tree = X
            for _ in range(80):
                part = rng.choice([X, ONE, ("name", "y"), ("number", MOST)])
                sign = rng.choice(SIGNS)
                tree = (sign, part, tree) if rng.random() < 0.7 else (sign, tree, part)
            for variables in ({"x": 5, "y": 3}, {"x": 0, "y": MOST}):
                self.assertEqual(computed(tree, variables), chain_number(tree, variables), tree)

    def test_two_deep_parts(self):
        for sign in SIGNS:
            for other in SIGNS:
                left, right = chain(other, 50, True), chain(other, 50, True, last=ZERO)
                variables = {"x": 5, "y": 3}
                numbers = [("number", chain_number(part, variables)) for part in (left, right)]
                self.assertEqual(computed((sign, left, right), variables), plain_number((sign, *numbers), {}))
        tree = X
        for at in range(10):
            tree = (SIGNS[at & 3], tree, (SIGNS[at + 1 & 3], ("name", "y"), tree))
        self.assertEqual(computed(tree, {"x": 9, "y": 2}), plain_number(tree, {"x": 9, "y": 2}))

    def test_the_deepest_value_of_a_text(self):
        inner = "1 < 1 + 1 * x"
        for _ in range(12):
            inner = "1 < 1 + 1 * (" + inner + ")"
        for text in (inner, " + ".join(["x"] * 1400), " * ".join(["x"] * 1400), "x < " + " - ".join(["y"] * 1400)):
            score = read_score("ends a, b play { a -> b: k(" + text + ") as x }")
            table = end_tables(score)["a"]
            code = code_of(table)
            self.assertIs(is_sound(("a", "b"), code), True)
            self.assertLessEqual(len(code), most_instructions(table))

    def test_the_bound_of_instructions(self):
        # Numbers do not count: each state has its 60 instructions, and each sign and name.
        for tree in (ONE, ("<", ONE, ("<", ONE, ("<", ONE, ("<", ONE, ONE)))), chain("<", 30, True), chain("-", 30, True)):
            for state in (("send", "b", "k", tree, 1), ("set", "x", tree, 1), ("if", tree, 1, 1), ("while", 3, tree, 1, 1)):
                self.assertLessEqual(len(code_of((state, END))), most_instructions((state, END)))

    def test_much_code_is_made_at_once(self):
        before = time.monotonic()
        table = tuple(("set", "x", chain("<", 40, True), at + 1) for at in range(399)) + (END,)
        code = code_of(table)
        self.assertLessEqual(len(code), most_instructions(table))
        self.assertIs(is_sound(ENDS, code), True)
        for on_the_right in (False, True):
            self.assertIs(is_sound(ENDS, code_of((("set", "x", chain("<", 3000, on_the_right), 1), END))), True)
        self.assertLess(time.monotonic() - before, 10)


def sound(*code):
    return is_sound(ENDS, code)


def pushes(many):
    return (("push", 1),) * many


class Forms(unittest.TestCase):
    """Each instruction stands where it can be reached, and where it cannot: its form counts in both places."""

    def check(self, instruction, expected):
        # With two numbers on the pile, except where nothing may be there, and as many taken away behind it as are left.
        word = instruction[0]
        left = {"push": 3, "load": 3, "store": 1, "add": 1, "sub": 1, "mul": 1, "less": 1, "same": 1, "zero": 1,
                "emit": 1, "wait": 0, "stop": 0}.get(word, 2)
        head = pushes(0 if word in ("wait", "stop") else 2)
        many = len(head) + 2 + left
        filled = tuple(many - 1 - left if part == "goal" else part for part in instruction)
        if word == "wait" and len(instruction) > 2 and isinstance(instruction[2], tuple):
            filled = instruction[:2] + (tuple(tuple(many - 1 if part == "goal" else part for part in choice)
                                              if isinstance(choice, tuple) else choice for choice in instruction[2]),)
            filled += instruction[3:]
        code = head + (filled,) + (("store", "x"),) * left + (STOP,)
        self.assertIs(sound(*code), expected, code)
        self.assertIs(sound(STOP, filled, *((STOP,) * (many - 1))), expected, filled)

    def test_right_ones(self):
        for instruction in (
                ("push", 0), ("push", MOST), ("load", "x"), ("store", "x"), ("add",), ("sub",), ("mul",), ("less",),
                ("same",), ("jump", "goal"), ("zero", "goal"), ("emit", "a", "k"), ("wait", "b", (("k", "x", "goal"),)),
                ("wait", "b", (("k", "x", "goal"), ("l", "y", "goal"), ("m", "x", "goal"))), ("input", "x"),
                ("round", 0, "goal"), ("round", MOST, "goal"), ("yes", 0), ("yes", MOST), ("no", 0), ("no", MOST),
                ("test", "yes"), ("test", "no"), ("stop",)):
            self.check(instruction, True)

    def test_words_that_are_none(self):
        for word in ("", "halt", "Push", "push ", "==", "+", "end", "send", "get", "set", "ask", "if", "while", "maybe"):
            for parts in ((), (1,), ("x",), ("b", "k"), (1, 0)):
                self.check((word,) + parts, False)

    def test_too_many_and_too_few_parts(self):
        for instruction in (
                ("push",), ("push", 1, 1), ("load",), ("load", "x", "x"), ("store",), ("store", "x", 0), ("add", 0),
                ("sub", "x"), ("mul", ()), ("less", 1, 2), ("same", 0), ("jump",), ("jump", 0, 0), ("zero",), ("zero", 0, 0),
                ("emit",), ("emit", "a"), ("emit", "a", "k", "x"), ("wait",), ("wait", "b"), ("wait", "b", "k", "x", 0),
                ("wait", "b", (("k", "x", 0),), 0), ("input",), ("input", "x", "x"), ("round",), ("round", 0),
                ("round", 0, 0, 0), ("yes",), ("yes", 0, 0), ("no",), ("no", 0, 0), ("test",), ("test", "yes", "no"),
                ("stop", 0), ("stop", "stop")):
            self.check(instruction, False)

    def test_parts_of_another_kind(self):
        choices = (("k", "x", 0),)
        for other in (0, "x", choices):
            for word in ("push", "yes", "no"):
                self.check((word, other), other == 0)
            for word in ("jump", "zero"):
                self.check((word, "goal" if other == 0 else other), other == 0)
            for word in ("load", "store", "input"):
                self.check((word, other), other == "x")
            for first in (0, "b", choices):
                self.check(("emit", first, other), (first, other) == ("b", "x"))
                self.check(("round", first, "goal" if other == 0 else other), (first, other) == (0, 0))
                self.check(("wait", first, other), (first, other) == ("b", choices))
            self.check(("test", other), False)
        self.check(("push", "1"), False)
        self.check(("jump", "0"), False)
        self.check(("test", 1), False)
        self.check(("test", "maybe"), False)
        self.check(("test", ""), False)

    def test_tuples_inside_of_tuples(self):
        for choices in ((((("k", "x", 0),), "x", 0),), (("k", ("x",), 0),), (("k", "x", (0,)),), (("k", "x", ((0,),)),),
                        ((),), (((),),), ((("k", "x", 0),),), (("k", "x"),), (("k", "x", 0, 0),), (("k",),),
                        (("k", "x", 0), ()), (("k", "x", 0), ("l", "x", "0")), ((0, "x", 0),), (("k", 0, 0),),
                        (("k", "x", "x"),), ("k", "x", 0), ("kx0",), (0,)):
            self.check(("wait", "b", choices), False)
        self.check(("push", (1,)), False)
        self.check(("load", (("x",),)), False)
        self.check(("jump", ((0,),)), False)
        self.check(("emit", ("b",), "k"), False)
        self.check(("wait", ("b",), (("k", "x", "goal"),)), False)

    def test_ends(self):
        for end in ("d", "", "A", "ab", "k", "x"):
            self.check(("emit", end, "k"), False)
            self.check(("wait", end, (("k", "x", "goal"),)), False)
        self.assertIs(is_sound((), (STOP,)), True)
        self.assertIs(is_sound((), (("wait", "a", (("k", "x", 0),)),)), False)

    def test_numbers(self):
        for number in (-1, -MOST, MOST + 1, 10 ** 30):
            for word in ("push", "yes", "no"):
                self.check((word, number), False)
            self.check(("round", number, "goal"), False)

    def test_goals(self):
        for goal in (-1, -2, MOST, MOST + 1):
            for instruction in (("jump", goal), ("zero", goal), ("round", 0, goal), ("wait", "b", (("k", "x", goal),)),
                                ("wait", "b", (("j", "x", 0), ("k", "x", goal)))):
                self.check(instruction, False)
        self.assertIs(sound(("jump", 1), STOP), True)
        self.assertIs(sound(("jump", 2), STOP), False)
        self.assertIs(sound(STOP, ("jump", 1)), True)
        self.assertIs(sound(STOP, ("jump", 2)), False)
        self.assertIs(sound(("push", 1), ("zero", 2), STOP), True)
        self.assertIs(sound(("push", 1), ("zero", 3), STOP), False)
        self.assertIs(sound(("round", 0, 1), STOP), True)
        self.assertIs(sound(("round", 0, 2), STOP), False)
        self.assertIs(sound(("wait", "a", (("k", "x", 1),)), STOP), True)
        self.assertIs(sound(("wait", "a", (("k", "x", 2),)), STOP), False)
        self.assertIs(sound(("wait", "a", (("k", "x", 0), ("l", "x", 2))), STOP), False)

    def test_choices(self):
        for choices in ((), (("l", "x", "goal"), ("k", "x", "goal")), (("k", "x", "goal"), ("k", "x", "goal")),
                        (("k", "x", "goal"), ("k", "y", "goal")), (("k", "x", "goal"), ("m", "x", "goal"), ("l", "x", "goal")),
                        (("k", "x", "goal"), ("l", "x", "goal"), ("l", "x", "goal"))):
            self.check(("wait", "b", choices), False)
        self.check(("wait", "b", (("K", "x", "goal"), ("k", "x", "goal"), ("k1", "x", "goal"), ("k_", "y", "goal"))), True)
        self.check(("wait", "b", (("k1", "x", "goal"), ("K", "x", "goal"))), False)


class Flow(unittest.TestCase):
    def test_empty_code(self):
        self.assertIs(sound(), False)
        self.assertIs(sound(STOP), True)

    def test_two_heights(self):
        self.assertIs(sound(("push", 1), ("zero", 3), ("push", 1), STOP), False)
        self.assertIs(sound(("push", 1), ("zero", 4), ("push", 1), ("store", "x"), STOP), True)
        self.assertIs(sound(("push", 1), ("zero", 4), ("push", 1), ("jump", 5), ("load", "y"), ("store", "x"), STOP), True)
        self.assertIs(sound(("push", 1), ("zero", 4), ("push", 1), ("jump", 4), ("store", "x"), STOP), False)
        self.assertIs(sound(("round", 0, 2), ("push", 1), STOP), False)
        self.assertIs(sound(("push", 1), ("jump", 0)), False)
        # Higher with each round, although a deed is done.
        self.assertIs(sound(("push", 1), ("test", "yes"), ("jump", 0)), False)
        self.assertIs(sound(("push", 1), ("push", 1), ("emit", "a", "k"), ("jump", 0)), False)
        self.assertIs(sound(("push", 1), ("emit", "a", "k"), ("jump", 0)), True)

    def test_an_empty_pile(self):
        for taking in (("store", "x"), ("emit", "b", "k"), ("zero", 1)):
            self.assertIs(sound(taking, STOP), False, taking)
            self.assertIs(sound(("push", 1), taking[:1] + tuple(2 if part == 1 else part for part in taking[1:]), STOP),
                          True, taking)
        for word in WORDS.values():
            self.assertIs(sound((word,), STOP), False)
            self.assertIs(sound(("push", 1), (word,), ("store", "x"), STOP), False)
            self.assertIs(sound(("push", 1), ("push", 1), (word,), ("store", "x"), STOP), True)

    def test_the_greatest_height(self):
        for many, expected in ((39, True), (40, True), (41, False), (42, False), (200, False)):
            code = pushes(many) + (("store", "x"),) * many + (STOP,)
            self.assertIs(sound(*code), expected, many)
            self.assertIs(sound(*code[:many], *((("add",),) * (many - 1)), ("emit", "a", "k"), STOP), expected, many)
            self.assertIs(sound(STOP, *code), True, many)
        # Height 41 counts as well where only a deed comes, or a jump.
        self.assertIs(sound(*pushes(40), ("test", "yes"), *((("store", "x"),) * 40), STOP), True)
        self.assertIs(sound(*pushes(41), ("test", "yes"), *((("store", "x"),) * 41), STOP), False)
        self.assertIs(sound(*pushes(41), ("jump", 42), *((("store", "x"),) * 41), STOP), False)

    def test_heights_at_stops_and_waits(self):
        wait = ("wait", "b", (("k", "x", 0),))
        self.assertIs(sound(wait), True)
        self.assertIs(sound(("push", 1), wait), False)
        self.assertIs(sound(("push", 1), STOP), False)
        self.assertIs(sound(("push", 1), ("store", "x"), STOP), True)
        self.assertIs(sound(("push", 1), ("store", "x"), wait), True)
        self.assertIs(sound(("push", 1), ("push", 1), ("store", "x"), wait), False)
        for deed in (("input", "x"), ("test", "no"), ("yes", 1), ("no", 1)):
            self.assertIs(sound(("push", 1), deed, ("store", "x"), STOP), True, deed)
        self.assertIs(sound(("push", 1), ("round", 1, 2), ("store", "x"), STOP), True)

    def test_running_behind_the_last_instruction(self):
        for last in (("push", 1), ("input", "x"), ("test", "yes"), ("yes", 0), ("no", 0), ("round", 0, 0)):
            self.assertIs(sound(last), False, last)
            self.assertIs(sound(("jump", 1), last), False, last)
            self.assertIs(sound(STOP, last), True, last)
        for last in (("store", "x"), ("emit", "a", "k"), ("zero", 0)):
            self.assertIs(sound(("push", 1), last), False, last)
        self.assertIs(sound(("push", 1), ("push", 1), ("add",)), False)
        self.assertIs(sound(("input", "x"), ("jump", 0)), True)
        self.assertIs(sound(("wait", "a", (("k", "x", 0),))), True)
        self.assertIs(sound(("jump", 2), ("jump", 3), ("jump", 1), ("input", "x"), ("jump", 0)), True)

    def test_circles_without_a_deed(self):
        self.assertIs(sound(("jump", 0)), False)
        self.assertIs(sound(("jump", 1), ("jump", 0)), False)
        self.assertIs(sound(("push", 1), ("zero", 0), STOP), False)
        self.assertIs(sound(("push", 1), ("zero", 3), ("jump", 0), STOP), False)
        self.assertIs(sound(("input", "x"), ("jump", 2), ("load", "x"), ("zero", 1), STOP), False)
        self.assertIs(sound(("input", "x"), ("jump", 2), ("load", "x"), ("zero", 0), STOP), True)
        # A round does a deed only when it goes on at its goal.
        self.assertIs(sound(("round", 0, 2), ("jump", 0), STOP), False)
        self.assertIs(sound(("round", 0, 0), STOP), True)
        self.assertIs(sound(("round", 0, 3), ("yes", 0), ("jump", 0), STOP), True)
        self.assertIs(sound(("round", 0, 1), ("jump", 0)), False)
        for deed in (("input", "x"), ("yes", 0), ("no", 0), ("test", "yes"), ("wait", "a", (("k", "x", 1),))):
            self.assertIs(sound(deed, ("jump", 0)), True, deed)
        for word in ("add", "sub", "mul", "less", "same"):
            code = (("push", 1), ("load", "x"), (word,), ("zero", 0), STOP)
            self.assertIs(sound(*code), False, word)
        self.assertIs(sound(("push", 1), ("store", "x"), ("jump", 0)), True)

    def test_what_cannot_be_reached(self):
        for rest in ((("add",),), (("store", "x"), STOP), (("push", 1), STOP), (("jump", 1),), (("jump", 2), ("jump", 1)),
                     (("push", 1),), (("zero", 0),), pushes(60), (("emit", "a", "k"),), (("round", 0, 1), ("jump", 1)),
                     (("push", 1), ("wait", "a", (("k", "x", 0),)))):
            self.assertIs(sound(STOP, *rest), True, rest)
            self.assertIs(sound(("input", "x"), ("jump", 0), *rest), True, rest)
            self.assertIs(sound(("jump", len(rest) + 1), *rest, STOP), True, rest)

    def test_random_code(self):
        rng = random.Random(3)
        found = {True: 0, False: 0}
        for _ in range(6000):
            code = random_code(rng, rng.randint(1, 7))
            expected = plainly_sound(code)
            found[expected] += 1
            self.assertIs(sound(*code), expected, code)
        self.assertGreater(found[True], 300)
        self.assertGreater(found[False], 300)


def random_code(rng, many):
    """Code of the right forms."""
    def one():
        goal = rng.randrange(many)
        return rng.choice([("push", 1), ("load", "x"), ("store", "x"), ("store", "x"), ("add",), ("jump", goal),
                           ("zero", goal), ("emit", "a", "k"), ("wait", "a", (("k", "x", goal),)), ("input", "x"),
                           ("wait", "b", (("k", "x", goal), ("l", "x", rng.randrange(many)))), ("round", 0, goal),
                           ("yes", 0), ("test", "no"), STOP, STOP])
    return tuple(one() for _ in range(many - 1)) + (rng.choice([STOP, STOP, ("jump", rng.randrange(many)), one()]),)


def moves(code, at):
    """The goals behind an instruction, each with whether the step is a deed."""
    word = code[at][0]
    if word == "wait":
        return [(choice[2], True) for choice in code[at][2]]
    return {"stop": [], "jump": [(code[at][-1], False)], "zero": [(code[at][-1], False), (at + 1, False)],
            "round": [(code[at][-1], True), (at + 1, False)]}.get(
                word, [(at + 1, word in ("emit", "input", "yes", "no", "test", "store"))])


def plainly_sound(code):
    """The words of point 37 for code of right forms, by all pairs of an instruction and a height."""
    change = {"push": 1, "load": 1, "store": -1, "add": -1, "zero": -1, "emit": -1}
    needs = {"store": 1, "add": 2, "zero": 1, "emit": 1}
    pairs = {(0, 0)}
    while True:
        more = set(pairs)
        for at, height in pairs:
            word = code[at][0]
            if height < needs.get(word, 0) or height > 40 or (word in ("stop", "wait") and height):
                return False
            for goal, _ in moves(code, at):
                if goal == len(code):
                    return False
                more.add((goal, height + change.get(word, 0)))
        if more == pairs:
            break
        pairs = more
    reached = {at for at, _ in pairs}
    if len(reached) < len(pairs):
        return False
    quiet = {at: {goal for goal, deed in moves(code, at) if not deed} for at in reached}
    for start in reached:
        seen, waiting = set(), [start]
        while waiting:
            for goal in quiet[waiting.pop()]:
                if goal == start:
                    return False
                if goal not in seen:
                    seen.add(goal)
                    waiting.append(goal)
    return True


if __name__ == "__main__":
    unittest.main()
