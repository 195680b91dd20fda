"""Point 47: texts of code."""

import random
import unittest

from helpers import MOST, random_value, talk
from onescore.code import code_of, is_sound
from onescore.errors import SyntaxProblem
from onescore.flat import Score
from onescore.listing import read_code, write_code
from onescore.tables import end_tables

LINES = {
    ("push", 0): "push 0", ("push", MOST): "push 4294967295", ("load", "x"): "load x", ("store", "x_1"): "store x_1",
    ("add",): "add", ("sub",): "sub", ("mul",): "mul", ("less",): "less", ("same",): "same", ("jump", 7): "jump 7",
    ("zero", 10): "zero 10", ("emit", "a", "k"): "emit a k", ("wait", "b", (("k", "x", 3),)): "wait b k x 3",
    ("wait", "b", (("k", "x", 3), ("l", "y", 0), ("m", "x", 12))): "wait b k x 3 l y 0 m x 12",
    ("input", "X9"): "input X9", ("round", 5, 6): "round 5 6", ("yes", 149): "yes 149", ("no", 0): "no 0",
    ("test", "yes"): "test yes", ("test", "no"): "test no", ("stop",): "stop",
}


class Written(unittest.TestCase):
    def test_each_instruction(self):
        for instruction, line in LINES.items():
            self.assertEqual(write_code((instruction,)), line + "\n")
            self.assertEqual(read_code(line + "\n"), (instruction,))
            self.assertEqual(read_code("stop\n" + line + "\nadd\n"), (("stop",), instruction, ("add",)))
        code = tuple(LINES)
        text = "".join(line + "\n" for line in LINES.values())
        self.assertEqual((write_code(code), read_code(text)), (text, code))

    def test_no_instructions(self):
        self.assertEqual(write_code(()), "")
        self.assertEqual(read_code(""), ())

    def test_code_of_tables(self):
        for seed in range(60):
            tree, _ = talk(seed)
            for table in end_tables(Score(tree)).values():
                code = code_of(table)
                text = write_code(code)
                self.assertEqual(read_code(text), code)
                self.assertEqual(write_code(read_code(text)), text)
                self.assertIs(is_sound(tree[0], read_code(text)), True)
                self.assertEqual(text.count("\n"), len(code))
        rng = random.Random(1)
        for _ in range(50):
            code = code_of((("set", "x", random_value(rng, 5), 0),))
            self.assertEqual(read_code(write_code(code)), code)

    def test_names(self):
        for name in ("x", "X", "x1", "a_b", "_", "_x", "9", "0", "007", "x" * 200, "stop", "wait", "yes", "if", "4294967296"):
            for instruction in (("load", name), ("store", name), ("input", name), ("emit", name, name),
                                ("wait", name, ((name, name, 0),))):
                self.assertEqual(read_code(write_code((instruction,))), (instruction,))


class Failures(unittest.TestCase):
    def fails(self, text, start):
        with self.assertRaises(SyntaxProblem) as caught:
            read_code(text)
        self.assertEqual(caught.exception.start, start, repr(text))

    def check(self, line):
        """A line that is wrong wherever it stands, the first one of all that are wrong."""
        self.fails(line + "\n", 0)
        self.fails("stop\n" + line + "\n", 5)
        self.fails("push 12\nadd\n" + line + "\nstop\n", 12)
        self.fails("push 12\n" + line + "\nnonsense\nstop", 8)
        self.fails(line + "\n" + line + "\n", 0)
        self.fails("stop\n" + line + "\nstop", 5)

    def test_empty_lines_and_blanks(self):
        for line in ("", " ", "  ", " stop", "stop ", "  add", "push  1", "push 1 ", " push 1", "emit a  k", "emit  a k", "wait b k x  3",
                     "wait b k x 3 ", "wait  b k x 3", "\tadd", "push\t1", "add\t", "add\r", "add#", "push 1 # one", "push,1"):
            self.check(line)
        self.fails("\n", 0)
        self.fails("stop\n\n", 5)
        self.fails("stop\n\nstop\n", 5)
        self.fails("\n\n\n", 0)

    def test_words(self):
        for line in ("halt", "Stop", "STOP", "stops", "sto", "push1", "pushx 1", "+", "1", "x", "end", "get a", "if", "yes1 0", "stop\x0b",
                     "add\x1cadd", "add\u2028add"):
            self.check(line)

    def test_too_many_and_too_few_parts(self):
        for line in ("push", "push 1 1", "load", "load x x", "store", "store x 1", "add 1", "sub x", "mul 0", "less 1 2", "same 1",
                     "jump", "jump 1 2", "zero", "zero 1 2", "emit", "emit a", "emit a k x", "emit a k 1", "input", "input x y",
                     "round", "round 1", "round 1 2 3", "yes", "yes 1 2", "no", "no 1 2", "test", "test yes no", "stop 0", "stop stop"):
            self.check(line)

    def test_waits(self):
        for line in ("wait", "wait b", "wait b k", "wait b k x", "wait b k x 3 l", "wait b k x 3 l y", "wait b k x 3 l y 4 m",
                     "wait b k x y", "wait b k x -1", "wait b k x 03", "wait b k x 4294967296", "wait b k! x 3", "wait b k x. 3",
                     "wait b- k x 3", "wait b k x 3 l y z", "wait b 3", "wait k x 3", "wait b (k x 3)", "wait  k x 3"):
            self.check(line)
        # The order of the choices is not looked at.
        self.assertEqual(read_code("wait b m x 3 k y 0\n"), (("wait", "b", (("m", "x", 3), ("k", "y", 0))),))
        self.assertEqual(read_code("wait b k x 3 k x 3\n"), (("wait", "b", (("k", "x", 3), ("k", "x", 3))),))
        self.assertEqual(read_code("wait 7 8 9 10\n"), (("wait", "7", (("8", "9", 10),)),))
        self.assertEqual(write_code((("wait", "b", (("m", "x", 3), ("k", "y", 0))),)), "wait b m x 3 k y 0\n")

    def test_numbers(self):
        for number in ("00", "01", "007", "4294967296", "4294967300", "9999999999", "10000000000", "-1", "-0", "+1", "1_0", "1.0", "0x1",
                       "1e3", "x", "", "\u0661", "\u00b2", "9" * 5000, "0" * 5000, "1" + "0" * 5000):
            for word in ("push", "jump", "zero", "yes", "no", "round 1", "wait b k x"):
                self.check(f"{word} {number}")
            self.check(f"round {number} 1")
        for number in (0, 1, 9, 10, 999999999, 1000000000, 4294967294, MOST):
            for word in ("push", "jump", "zero", "yes", "no"):
                self.assertEqual(read_code(f"{word} {number}\n"), ((word, number),))
            self.assertEqual(read_code(f"round {number} {number}\n"), (("round", number, number),))

    def test_names_with_other_characters(self):
        for name in ("x-y", "x.y", "x!", "-", "x\u00e9", "\u00e9", "#x", "x,", "(x)", "x=", "\u0661", "x\ty"):
            for line in (f"load {name}", f"store {name}", f"input {name}", f"emit {name} k", f"emit a {name}",
                         f"wait {name} k x 3", f"wait b {name} x 3", f"wait b k {name} 3"):
                self.check(line)

    def test_answers(self):
        for line in ("test maybe", "test Yes", "test y", "test 1", "test 0", "test"):
            self.check(line)

    def test_a_last_line_without_newline(self):
        for text in ("stop", "push 1\nstop", "s", "nonsense", "push 1\nnonsense", "push 1\n ", " ", "push", "stop\nstop\nwait b"):
            self.fails(text, len(text))
        self.fails("nonsense\nstop", 0)
        self.fails("stop\nnonsense\nstop", 5)
        self.fails("stop\n\nstop", 5)

    def test_the_first_wrong_line(self):
        self.fails("push 1\nhalt\npush\n", 7)
        self.fails("push 1\npush\nhalt\n", 7)
        self.fails("add\n\n\nhalt\n", 4)


if __name__ == "__main__":
    unittest.main()
