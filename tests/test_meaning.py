"""Points 17 to 19: the plain run, its variables, deeds and rows, and even cuts."""

import copy
import itertools
import random
import time
import unittest

import helpers
from helpers import MOST, ONE, ZERO, SlowRun
from onescore.errors import InvalidInputs, TooLarge
from onescore.flat import Score, read_score
from onescore.meaning import PlainRun, even_cuts, is_even


def run(text, **inputs):
    """The plain run of a text; ends without inputs have none."""
    score = read_score(text)
    return PlainRun(score, {end: inputs.get(end, []) for end in score.ends})


def some_values(rng):
    return rng.choice([ZERO, ONE, ("name", "x"), ("name", "y"), ("-", ("name", "x"), ONE),
                       ("<", ("name", "x"), ("number", 3)), ("+", ("name", "y"), ("name", "x"))])


def random_case(seed, most_ends=3, many=10):
    """A random tree with inputs."""
    rng = random.Random(seed)
    ends = tuple("abcdef"[:rng.randint(2, most_ends)])
    tree = (ends, (), helpers.random_block(rng, ends, many, values=some_values))
    inputs = {end: [rng.choice([0, 1, 2, 5, MOST]) for _ in range(rng.randint(0, 9))] for end in ends}
    return tree, inputs


def plain_even(found, ends, cut):
    """Whether for each get in the cut the send of the same message is in it, too."""
    done = {end: many for end, many in zip(ends, cut)}
    for at, deed in enumerate(found.deeds):
        many = sum(1 for other in found.deeds[:at] if other[1] == deed[1])
        if deed[0] == "get" and many < done[deed[1]]:
            send = found.deeds[at - 1]
            if sum(1 for other in found.deeds[:at - 1] if other[1] == send[1]) >= done[send[1]]:
                return False
    return True


class Runs(unittest.TestCase):
    def test_each_kind_of_deed_and_the_order_of_send_and_get(self):
        found = run("ends a, b play { a asks n b sets m = n + 7 a -> b: k(n + 1) as v if b: v { b asks w } else { } "
                    "while b: 0 { } }", a=[4], b=[9])
        self.assertEqual(found.deeds, (
            ("ask", "a", "n", 4), ("set", "b", "m", 7), ("send", "a", "b", "k", 5), ("get", "b", "a", "k", 5),
            ("if", "b", "yes"), ("ask", "b", "w", 9), ("while", "b", 5, "no")))
        self.assertEqual(found.rows, {
            "a": (("ask", "a", "n", 4), ("send", "a", "b", "k", 5)),
            "b": (("set", "b", "m", 7), ("get", "b", "a", "k", 5), ("if", "b", "yes"), ("ask", "b", "w", 9),
                  ("while", "b", 5, "no"))})
        self.assertEqual(found.variables, {"a": {"n": 4}, "b": {"m": 7, "v": 5, "w": 9}})
        self.assertIsInstance(found.deeds, tuple)
        self.assertIsInstance(found.rows["a"], tuple)

    def test_a_score_without_statements(self):
        found = run("ends a, b play { }", a=[1, 2])
        self.assertEqual((found.deeds, found.rows, found.variables), ((), {"a": (), "b": ()}, {"a": {}, "b": {}}))
        self.assertEqual(even_cuts(found), [(0, 0)])
        self.assertIs(is_even(found, (0, 0)), True)

    def test_ends_that_do_nothing(self):
        found = run("ends c, a, b play { b sets x = 3 }", a=[1])
        self.assertEqual(list(found.rows), ["c", "a", "b"])
        self.assertEqual(found.rows, {"c": (), "a": (), "b": (("set", "b", "x", 3),)})
        self.assertEqual(found.variables, {"c": {}, "a": {}, "b": {"x": 3}})

    def test_values_with_each_sign(self):
        for value, number in (("7 + 2", 9), ("2 - 7", MOST - 4), ("7 * 2", 14), ("2 < 7", 1), ("7 < 7", 0),
                              ("7 == 7", 1), ("7 == 2", 0), ("4294967295 + 2", 1), ("65536 * 65536", 0),
                              ("0 - 1", MOST), ("x + 5", 5), ("0 - 1 < 1", 0)):
            found = run("ends a, b play { a sets y = " + value + " a -> b: k(" + value + ") as z }")
            self.assertEqual(found.deeds[0], ("set", "a", "y", number), value)
            self.assertEqual(found.deeds[2], ("get", "b", "a", "k", number))
            self.assertEqual(found.variables, {"a": {"y": number}, "b": {"z": number}})

    def test_the_value_of_a_message_is_the_senders(self):
        found = run("ends a, b play { a sets x = 1 b sets x = 2 a -> b: k(x + 10) as x b -> a: k(x + 10) as y "
                    "a -> b: l(x) as z }")
        self.assertEqual(found.variables, {"a": {"x": 1, "y": 21}, "b": {"x": 11, "z": 1}})

    def test_a_message_reaches_only_the_other_end(self):
        found = run("ends a, b, c play { a -> b: k(5) as x a sets y = x c sets y = x b sets y = x }")
        self.assertEqual(found.variables, {"a": {"y": 0}, "b": {"x": 5, "y": 5}, "c": {"y": 0}})

    def test_names_that_have_no_number_yet(self):
        found = run("ends a, b play { a sets y = x + 1 a sets x = y + z }")
        self.assertEqual(found.variables["a"], {"y": 1, "x": 1})

    def test_inputs_in_order_and_when_they_run_out(self):
        found = run("ends a, b play { a asks x b asks x a asks y a asks z a asks x }", a=[5, 6, 7], b=[MOST])
        self.assertEqual([deed[3] for deed in found.rows["a"]], [5, 6, 7, 0])
        self.assertEqual(found.variables, {"a": {"x": 0, "y": 6, "z": 7}, "b": {"x": MOST}})

    def test_an_if_both_ways(self):
        for number, answer in ((0, "no"), (1, "yes"), (MOST, "yes")):
            found = run("ends a, b play { a asks n if a: n { b sets x = 1 } else { b sets x = 2 } a sets y = n }",
                        a=[number])
            self.assertEqual(found.deeds[1:], (("if", "a", answer), ("set", "b", "x", 1 if number else 2),
                                               ("set", "a", "y", number)))

    def test_a_while_that_ends_by_its_value(self):
        for many in (0, 1, 7, 8):
            found = run("ends a, b play { a asks n while a: n { a sets n = n - 1 b sets m = m + 1 } a sets z = 1 }",
                        a=[many])
            self.assertEqual(found.variables, {"a": {"n": 0, "z": 1}, "b": {"m": many} if many else {}})
            self.assertEqual([deed for deed in found.deeds if deed[0] == "while"],
                             [("while", "a", 1, "yes")] * many + [("while", "a", 1, "no")])

    def test_a_while_is_answered_no_after_eight_yes(self):
        for many in (9, 20):
            found = run("ends a, b play { a asks n while a: n { a sets n = n - 1 } }", a=[many])
            self.assertEqual(found.variables["a"]["n"], many - 8)
            self.assertEqual([deed[-1] for deed in found.deeds if deed[0] == "while"], ["yes"] * 8 + ["no"])

    def test_an_empty_while(self):
        found = run("ends a play { while a: 1 { } while a: 0 { } }")
        self.assertEqual(found.deeds, (("while", "a", 0, "yes"),) * 8 + (("while", "a", 0, "no"),
                                                                         ("while", "a", 1, "no")))

    def test_the_count_begins_again_inside_of_another_while(self):
        found = run("ends a play { while a: n < 3 { a sets n = n + 1 while a: 1 { a sets m = m + 1 } } }")
        self.assertEqual(found.variables, {"a": {"n": 3, "m": 24}})
        found = run("ends a play { while a: 1 { while a: n < 5 { a sets n = n + 1 a sets m = m + 1 } a sets n = 0 } }")
        self.assertEqual(found.variables["a"], {"n": 0, "m": 40})

    def test_three_whiles_inside_of_each_other(self):
        found = run("ends a, b play { while a: 1 { while b: 1 { while a: 1 { a -> b: k(n) as n a sets n = n + 1 } } "
                    "} }")
        self.assertEqual(found.variables, {"a": {"n": 512}, "b": {"n": 511}})
        self.assertEqual(len(found.deeds), 512 * 3 + (512 + 64) + (64 + 8) + (8 + 1))

    def test_random_runs(self):
        loops = 0
        for seed in range(800):
            tree, inputs = random_case(seed)
            found, slow = PlainRun(Score(tree), inputs), SlowRun(tree, inputs)
            self.assertEqual(found.deeds, tuple(slow.deeds))
            self.assertEqual(found.rows, slow.rows)
            self.assertEqual(found.variables, slow.variables)
            loops += any(deed[0] == "while" and deed[3] == "yes" for deed in found.deeds)
        self.assertGreater(loops, 100)

    def test_very_many_deeds_and_signs(self):
        start = time.perf_counter()
        block = tuple(("message", "ab"[at % 2], "ba"[at % 2], "k", ("name", "x"), "x") for at in range(147))
        for end in "aba":
            block = (("while", end, ONE, block),)
        self.assertEqual(len(PlainRun(Score((("a", "b"), (), block)), {"a": [], "b": []}).deeds),
                         512 * 147 * 2 + 576 + 72 + 9)
        found = run("ends a play { while a: 1 { while a: 1 { a sets x = " + "1+" * 2500 + "x } } }")
        self.assertEqual(found.variables, {"a": {"x": 64 * 2500}})
        self.assertLess(time.perf_counter() - start, 10)


class Inputs(unittest.TestCase):
    def assert_refused(self, score, inputs):
        kept = copy.deepcopy(inputs)
        with self.assertRaises(InvalidInputs):
            PlainRun(score, inputs)
        self.assertEqual(inputs, kept)

    def test_ends(self):
        score = read_score("ends a, b play { a asks x }")
        for inputs in ({}, {"a": []}, {"b": []}, {"a": [], "b": [], "c": []}, {"a": [], "c": []}, {"a": [1], "B": []}):
            self.assert_refused(score, inputs)
        self.assertEqual(PlainRun(score, {"b": [], "a": [3]}).variables, {"a": {"x": 3}, "b": {}})

    def test_numbers(self):
        score = read_score("ends a, b play { a asks x }")
        for number in (-1, MOST + 1, -MOST, 10 ** 30):
            for inputs in ({"a": [number], "b": []}, {"a": [1, number, 2], "b": []}, {"a": [1], "b": [2, 3, number]}):
                self.assert_refused(score, inputs)
        for number in (0, MOST):
            found = PlainRun(score, {"a": [number], "b": [number, number]})
            self.assertEqual(found.variables["a"], {"x": number})

    def test_the_inputs_stay_as_they_were_and_are_not_kept(self):
        score = read_score("ends a, b play { a asks x a asks y }")
        inputs = {"a": [1, 2], "b": []}
        kept = copy.deepcopy((inputs, vars(score)))
        found = PlainRun(score, inputs)
        self.assertEqual((inputs, vars(score)), kept)
        before = copy.deepcopy(vars(found))
        inputs["a"].append(3)
        inputs.clear()
        self.assertEqual(vars(found), before)

    def test_two_runs_share_nothing(self):
        score = read_score("ends a, b play { a asks x a -> b: k(x) as y }")
        first, second = (PlainRun(score, {"a": [1], "b": []}) for _ in range(2))
        kept = copy.deepcopy((second.deeds, second.rows, second.variables))
        first.rows.clear()
        first.variables["a"]["x"] = 5
        self.assertEqual((second.deeds, second.rows, second.variables), kept)


class Cuts(unittest.TestCase):
    def test_one_message(self):
        found = run("ends a, b play { a -> b: k(1) as x }")
        for cut, expected in (((0, 0), True), ((1, 0), True), ((0, 1), False), ((1, 1), True)):
            self.assertIs(is_even(found, cut), expected)
        self.assertEqual(even_cuts(found), [(0, 0), (1, 0), (1, 1)])

    def test_zeros_the_whole_and_one_message_too_early(self):
        found = run("ends a, b, c play { a asks x a -> b: k(1) as x b -> c: k(1) as x c -> a: k(1) as x "
                    "a -> b: l(1) as x b asks z }")
        self.assertEqual([len(found.rows[end]) for end in "abc"], [4, 4, 2])
        for cut, expected in (((0, 0, 0), True), ((4, 4, 2), True), ((1, 0, 0), True), ((1, 1, 0), False),
                              ((2, 1, 0), True), ((2, 1, 1), False), ((2, 2, 1), True), ((2, 2, 2), True),
                              ((3, 2, 1), False), ((3, 2, 2), True), ((3, 3, 2), False), ((4, 3, 2), True),
                              ((4, 0, 0), False), ((0, 4, 0), False), ((0, 0, 2), False), ((2, 0, 0), True)):
            self.assertIs(is_even(found, cut), expected, cut)

    def test_two_messages_between_the_same_ends(self):
        found = run("ends a, b play { a -> b: k(1) as x a asks y a -> b: l(1) as x }")
        self.assertEqual(even_cuts(found), [(0, 0), (1, 0), (1, 1), (2, 0), (2, 1), (3, 0), (3, 1), (3, 2)])

    def test_runs_without_messages(self):
        found = run("ends a, b play { a asks x b asks x a asks x }")
        self.assertEqual(even_cuts(found), [(a, b) for a in range(3) for b in range(2)])
        for cut in itertools.product(range(3), range(2)):
            self.assertIs(is_even(found, cut), True)

    def test_random_runs(self):
        looked = 0
        for seed in range(300):
            tree, inputs = random_case(seed, most_ends=4, many=6)
            found = PlainRun(Score(tree), inputs)
            if len(found.deeds) > 25:
                continue
            looked += 1
            cuts = list(itertools.product(*[range(len(found.rows[end]) + 1) for end in tree[0]]))
            for cut in cuts:
                self.assertIs(is_even(found, cut), plain_even(found, tree[0], cut))
            self.assertEqual(even_cuts(found), [cut for cut in cuts if is_even(found, cut)])
        self.assertGreater(looked, 100)

    def asks(self, *counts):
        ends = "abcdef"[:len(counts)]
        block = tuple(("ask", end, "x") for end, many in zip(ends, counts) for _ in range(many))
        return PlainRun(Score((tuple(ends), (), block)), {end: [] for end in ends})

    def test_3000_cuts_are_enough(self):
        found = even_cuts(self.asks(14, 9, 19))
        self.assertEqual(found, list(itertools.product(range(15), range(10), range(20))))
        self.assertEqual(len(found), 3000)
        with self.assertRaises(TooLarge):
            even_cuts(self.asks(14, 9, 20))

    def test_one_cut_more(self):
        text = "ends a play { while a: 1 { while a: 1 { " + "a asks x " * 44 + "} " + "a asks x " * 12 + "} "
        self.assertEqual(even_cuts(run(text + "a asks x " * 6 + "}")), [(at,) for at in range(3000)])
        found = run(text + "a asks x " * 7 + "}")
        self.assertEqual(len(found.deeds), 3000)
        with self.assertRaises(TooLarge):
            even_cuts(found)

    def test_too_many_cuts_are_found_out_at_once(self):
        start = time.perf_counter()
        with self.assertRaises(TooLarge):
            even_cuts(self.asks(25, 25, 25, 25, 25, 25))
        block = "while {0}: 1 { while {0}: 1 { while {0}: 1 { {0} asks x } } } "
        with self.assertRaises(TooLarge):
            even_cuts(run("ends a, b, c play { " + "".join(block.replace("{0}", end) for end in "abc") + "}"))
        self.assertLess(time.perf_counter() - start, 5)

    def test_what_is_returned_is_new_and_the_run_stays_as_it_was(self):
        found = run("ends a, b play { a -> b: k(1) as x }")
        kept = copy.deepcopy(vars(found))
        cuts = even_cuts(found)
        is_even(found, (1, 0))
        self.assertEqual(vars(found), kept)
        cuts.clear()
        self.assertEqual(even_cuts(found), [(0, 0), (1, 0), (1, 1)])
        found.rows.clear()
        found.variables.clear()
        self.assertEqual(even_cuts(found), [(0, 0), (1, 0), (1, 1)])
        self.assertIs(is_even(found, (0, 1)), False)


if __name__ == "__main__":
    unittest.main()
