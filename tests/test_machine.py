"""Points 36 and 38: the machine that runs sound code."""

import copy
import random
import unittest

from helpers import MOST, machines_deeds, random_told_score, talk
from onescore.code import code_of, is_sound
from onescore.errors import Unclear
from onescore.flat import Score, read_score
from onescore.machine import Machine
from onescore.meaning import PlainRun
from onescore.tables import end_tables, paper

STOP = ("stop",)


def machine(*code, inputs=()):
    assert is_sound(("a", "b", "c"), code), code
    return Machine("a", code, list(inputs))


def done(*code, inputs=()):
    """The deeds of code that gets no letters, up to 50."""
    deeds, taken = machine(*code, inputs=inputs).run({}, 50)
    assert taken == {}
    return deeds


def number_of_code(*code, **variables):
    """What code leaves on the pile, with variables that are given by inputs."""
    head = tuple(("input", name) for name in variables)
    deeds = done(*head, *code, ("emit", "b", "k"), STOP, inputs=list(variables.values()))
    assert deeds[-1][:4] == ("send", "a", "b", "k")
    return deeds[-1][4]


class Instructions(unittest.TestCase):
    def test_push_load_and_emit(self):
        self.assertEqual(number_of_code(("push", 7)), 7)
        self.assertEqual(number_of_code(("push", MOST)), MOST)
        self.assertEqual(number_of_code(("load", "x")), 0)
        self.assertEqual(number_of_code(("load", "x"), x=5), 5)
        self.assertEqual(done(("push", 1), ("push", 2), ("emit", "b", "k"), ("emit", "c", "l"), STOP),
                         [("send", "a", "b", "k", 2), ("send", "a", "c", "l", 1)])

    def test_signs(self):
        for word, a, b, expected in (
                ("add", 2, 3, 5), ("add", MOST, 1, 0), ("add", MOST, MOST, MOST - 1), ("sub", 5, 3, 2), ("sub", 3, 5, MOST - 1),
                ("sub", 0, MOST, 1), ("mul", 6, 7, 42), ("mul", 65536, 65536, 0), ("mul", MOST, MOST, 1), ("mul", MOST, 2, MOST - 1),
                ("less", 2, 3, 1), ("less", 3, 3, 0), ("less", 4, 3, 0), ("less", 0, MOST, 1), ("less", MOST, 0, 0),
                ("same", 3, 3, 1), ("same", 2, 3, 0), ("same", 3, 2, 0), ("same", MOST, MOST, 1)):
            self.assertEqual(number_of_code(("push", a), ("push", b), (word,)), expected, (word, a, b))
            self.assertEqual(number_of_code(("load", "x"), ("load", "y"), (word,), x=a, y=b), expected, (word, a, b))
        self.assertEqual(number_of_code(("push", 100), ("push", 9), ("push", 4), ("sub",), ("sub",)), 95)

    def test_store_is_a_deed(self):
        one = machine(("push", 4), ("store", "x"), ("load", "x"), ("load", "x"), ("add",), ("store", "y"), STOP)
        self.assertEqual(one.run({}, 9), ([("set", "a", "x", 4), ("set", "a", "y", 8)], {}))
        self.assertEqual(one.variables(), {"x": 4, "y": 8})
        self.assertEqual(done(("push", 1), ("push", 2), ("store", "x"), ("store", "x"), STOP),
                         [("set", "a", "x", 2), ("set", "a", "x", 1)])

    def test_the_store_of_a_wait_is_none(self):
        one = machine(("wait", "b", (("k", "x", 1),)), ("load", "x"), ("emit", "b", "l"), STOP)
        self.assertEqual(one.run({"b": [("k", 9)]}, 9),
                         ([("get", "a", "b", "k", 9), ("send", "a", "b", "l", 9)], {"b": 1}))
        self.assertEqual(one.variables(), {"x": 9})

    def test_jump_and_zero(self):
        self.assertEqual(done(("jump", 2), ("test", "no"), ("test", "yes"), STOP), [("if", "a", "yes")])
        code = (("load", "x"), ("zero", 4), ("test", "yes"), ("jump", 5), ("test", "no"), STOP)
        self.assertEqual(done(*code), [("if", "a", "no")])
        for number, answer in ((0, "no"), (1, "yes"), (MOST, "yes")):
            shifted = [(word, part + 1) if word in ("jump", "zero") else (word, part) for word, part in code[:-1]]
            self.assertEqual(done(("input", "x"), *shifted, STOP, inputs=[number]),
                             [("ask", "a", "x", number), ("if", "a", answer)])
        self.assertEqual(done(("push", 0), ("zero", 2), STOP), [])

    def test_input(self):
        one = machine(("input", "x"), ("input", "y"), ("input", "x"), ("input", "z"), STOP, inputs=[4, MOST])
        self.assertEqual(one.run({}, 9)[0], [("ask", "a", "x", 4), ("ask", "a", "y", MOST), ("ask", "a", "x", 0),
                                             ("ask", "a", "z", 0)])
        self.assertEqual(one.variables(), {"x": 0, "y": MOST, "z": 0})

    def test_test_yes_and_no(self):
        self.assertEqual(done(("test", "yes"), ("test", "no"), ("yes", 3), ("no", 4), STOP),
                         [("if", "a", "yes"), ("if", "a", "no"), ("while", "a", 3, "yes"), ("while", "a", 4, "no")])
        self.assertEqual(done(STOP), [])

    def test_the_name(self):
        one = Machine("zoe", (("push", 1), ("emit", "b", "k"), ("input", "x"), STOP), [3])
        self.assertEqual(one.run({}, 9)[0], [("send", "zoe", "b", "k", 1), ("ask", "zoe", "x", 3)])


class Rounds(unittest.TestCase):
    LOOP = (("round", 5, 3), ("yes", 5), ("jump", 0), STOP)

    def test_behind_eight_yes(self):
        expected = [("while", "a", 5, "yes")] * 8 + [("while", "a", 5, "no")]
        self.assertEqual(done(*self.LOOP), expected)
        one = machine(*self.LOOP)
        for at in range(9):
            self.assertFalse(one.has_ended())
            self.assertEqual(one.run({}, 1), (expected[at:at + 1], {}))
        self.assertEqual(one.run({}, 1), ([], {}))
        self.assertTrue(one.has_ended())

    def test_nothing_is_computed_then(self):
        # The way on is taken with the pile as it is, and the value behind is not looked at.
        code = (("push", 6), ("round", 0, 6), ("push", 1), ("zero", 6), ("yes", 0), ("jump", 1), ("emit", "b", "k"), STOP)
        self.assertEqual(done(*code), [("while", "a", 0, "yes")] * 8 + [("while", "a", 0, "no"), ("send", "a", "b", "k", 6)])

    def test_the_count_begins_again_behind_a_no(self):
        yes, no = ("while", "a", 0, "yes"), ("while", "a", 0, "no")
        self.assertEqual(done(*((("yes", 0),) * 7), ("no", 0), *((("yes", 0),) * 7), ("round", 0, 17), ("test", "no"), STOP),
                         [yes] * 7 + [no] + [yes] * 7 + [("if", "a", "no")])
        self.assertEqual(done(*((("yes", 0),) * 8), ("round", 0, 9), ("round", 0, 11), ("test", "no"), STOP),
                         [yes] * 8 + [no, ("if", "a", "no")])
        self.assertEqual(done(*((("yes", 0),) * 8), ("no", 0), ("round", 0, 11), ("test", "no"), STOP),
                         [yes] * 8 + [no, ("if", "a", "no")])
        self.assertEqual(done(("round", 0, 3), *((("yes", 0),) * 8), ("jump", 0), STOP)[:9], [yes] * 8 + [no])

    def test_each_while_counts_for_itself(self):
        code = (*((("yes", 1),) * 7), *((("yes", 2),) * 8), ("round", 1, 18), ("round", 2, 18), ("test", "no"), STOP)
        self.assertEqual(done(*code)[15:], [("while", "a", 2, "no")])


class Letters(unittest.TestCase):
    TWO = (("wait", "b", (("k", "x", 1), ("l", "y", 2))), ("test", "yes"), ("wait", "c", (("m", "z", 0),)))

    def test_portions(self):
        one = machine(*self.TWO)
        self.assertEqual(one.run({}, 9), ([], {}))
        self.assertEqual(one.run({"b": [], "c": []}, 9), ([], {}))
        self.assertFalse(one.has_ended())
        self.assertEqual(one.run({"c": [("m", 1)]}, 9), ([], {}))
        self.assertEqual(one.run({"b": [("k", 2)], "c": []}, 9), ([("get", "a", "b", "k", 2), ("if", "a", "yes")], {"b": 1}))
        self.assertEqual(one.run({"b": [("k", 3)], "c": [("m", 4), ("m", 5)]}, 9),
                         ([("get", "a", "c", "m", 4), ("get", "a", "b", "k", 3), ("if", "a", "yes"),
                           ("get", "a", "c", "m", 5)], {"c": 2, "b": 1}))
        self.assertEqual(one.variables(), {"x": 3, "z": 5})
        self.assertEqual(one.run({"b": [("l", 6)]}, 9), ([("get", "a", "b", "l", 6)], {"b": 1}))
        self.assertEqual(one.variables(), {"x": 3, "y": 6, "z": 5})

    def test_letters_that_are_not_taken_are_handed_again(self):
        one = machine(*self.TWO)
        letters = {"b": [("l", 1), ("k", 2)], "c": [("m", 3)]}
        kept = copy.deepcopy(letters)
        self.assertEqual(one.run(letters, 1), ([("get", "a", "b", "l", 1)], {"b": 1}))
        self.assertEqual(letters, kept)
        self.assertEqual(one.run({"b": [("k", 2)], "c": [("m", 3)]}, 2),
                         ([("get", "a", "c", "m", 3), ("get", "a", "b", "k", 2)], {"c": 1, "b": 1}))
        # What was handed and not taken is not kept: nothing is handed now.
        other = machine(*self.TWO)
        other.run({"b": [("l", 1)], "c": []}, 9)
        self.assertEqual(other.run({}, 9), ([], {}))
        self.assertEqual(other.run({"b": [("k", 7)]}, 9), ([], {}))

    def test_other_labels(self):
        one = machine(*self.TWO)
        self.assertEqual(one.run({"b": [("m", 1), ("k", 2)]}, 9), ([], {}))
        self.assertFalse(one.has_ended())
        self.assertEqual(one.run({"b": [("", 1)]}, 9), ([], {}))
        self.assertEqual(one.run({"c": [("k", 1)]}, 9), ([], {}))
        self.assertEqual(one.variables(), {})
        self.assertEqual(one.run({"b": [("l", 1)], "c": [("k", 2)]}, 9), ([("get", "a", "b", "l", 1)], {"b": 1}))
        self.assertEqual(one.run({"c": [("m", 1)]}, 9), ([("get", "a", "c", "m", 1)], {"c": 1}))

    def test_counts_of_deeds(self):
        one = machine(("input", "x"), ("load", "x"), ("emit", "b", "k"), ("wait", "b", (("l", "y", 4),)), ("test", "yes"), STOP,
                      inputs=[3])
        self.assertEqual(one.run({"b": [("l", 1)]}, 0), ([], {}))
        self.assertEqual(one.run({"b": [("l", 1)]}, 1), ([("ask", "a", "x", 3)], {}))
        self.assertEqual(one.run({"b": [("l", 1)]}, 0), ([], {}))
        self.assertEqual(one.run({"b": [("l", 1)]}, 2), ([("send", "a", "b", "k", 3), ("get", "a", "b", "l", 1)], {"b": 1}))
        self.assertEqual(one.run({"b": [("l", 1)]}, 7), ([("if", "a", "yes")], {}))
        self.assertIs(one.has_ended(), True)
        self.assertEqual(one.variables(), {"x": 3, "y": 1})
        self.assertEqual(one.run({"b": [("l", 1)]}, 7), ([], {}))
        self.assertIs(one.has_ended(), True)

    def test_more_deeds_than_there_are(self):
        one = machine(("test", "yes"), ("test", "no"), ("jump", 3), STOP)
        self.assertEqual(one.run({}, 10 ** 9), ([("if", "a", "yes"), ("if", "a", "no")], {}))
        self.assertIs(one.has_ended(), True)
        waiting = machine(("test", "yes"), ("wait", "b", (("k", "x", 0),)))
        self.assertEqual(waiting.run({"b": [("k", 1)]}, 10 ** 9)[1], {"b": 1})
        self.assertIs(waiting.has_ended(), False)
        self.assertEqual(waiting.variables(), {"x": 1})

    def test_two_machines_with_the_same_code(self):
        inputs = [3, 4]
        code = (("input", "x"), ("input", "x"), STOP)
        first, second = Machine("a", code, inputs), Machine("a", code, inputs)
        inputs[:] = [9, 9]
        self.assertEqual(first.run({}, 1)[0], [("ask", "a", "x", 3)])
        self.assertEqual(second.run({}, 9)[0], [("ask", "a", "x", 3), ("ask", "a", "x", 4)])
        self.assertEqual(first.variables(), {"x": 3})
        first.variables()["x"] = 7
        self.assertEqual(first.run({}, 9)[0], [("ask", "a", "x", 4)])


class Scores(unittest.TestCase):
    def check(self, score, inputs, rng, tables=None):
        run = PlainRun(score, inputs)
        tables = tables or end_tables(score)
        machines = {end: Machine(end, code_of(tables[end]), inputs[end]) for end in score.ends}
        deeds = machines_deeds(machines, rng)
        self.assertEqual({end: tuple(rows) for end, rows in deeds.items()}, run.rows)
        for end, one in machines.items():
            self.assertEqual(one.run({}, 1), ([], {}))
            self.assertIs(one.has_ended(), True)
            self.assertEqual(one.variables(), run.variables[end])

    def test_least_tables(self):
        for seed in range(120):
            tree, inputs = talk(seed)
            self.check(Score(tree), inputs, random.Random(seed))

    def test_right_tables(self):
        done = 0
        for seed in range(80):
            score = random_told_score(seed, most_ends=4, many=8, share=0.3)
            try:
                given = paper(score)
            except Unclear:
                continue
            done += 1
            self.check(score, {end: [seed, 1, 0, 3] for end in score.ends}, random.Random(seed),
                       {end: given[end][0] for end in score.ends})
        self.assertGreater(done, 20)

    def test_texts(self):
        for text in ("ends a, b play { while a: n { a -> b: more(n) as k a sets n = n - 1 } a -> b: stop(0) as k }",
                     "ends a, b play { a sets n = 30 while a: n { a -> b: more(n * n - 1) as k a sets n = n - 1 } "
                     "a -> b: stop(0) as k b -> a: sum(k + (k < 3) * (k == 0)) as m }",
                     "ends a, b, c play { a asks n a -> b: x(n) as n b -> c: x(n + 1) as n c -> a: x(n * 2) as n "
                     "while a: n < 9 { a asks m a sets n = n + m a -> b: go(n) as n b -> c: go(n) as n } "
                     "a -> b: end(0) as z b -> c: end(z) as z }", "ends a play { while a: 1 { while a: 1 { a asks n } } }"):
            score = read_score(text)
            for numbers in ([], [0], [1, 2, 3], [MOST, 7, 0, 2]):
                for seed in range(3):
                    self.check(score, {end: list(numbers) for end in score.ends}, random.Random(seed))


if __name__ == "__main__":
    unittest.main()
