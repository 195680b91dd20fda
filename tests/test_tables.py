"""Points 13 to 16: tables, papers, alike states and least tables."""

import copy
import itertools
import random
import time
import unittest

import helpers
from helpers import END, ONE, goals, shuffled, with_numbers, without_goals
from onescore.clear import behind, is_witness, rest
from onescore.errors import TooLarge, Unclear
from onescore.flat import read_score
from onescore.tables import alike, end_tables, least_table, paper

N = ("name", "n")


def plain_alike(table):
    """The set of pairs of alike states: all pairs, but for those that something tells apart."""
    pairs = {(one, other) for one in range(len(table)) for other in range(len(table))
             if without_goals(table[one]) == without_goals(table[other])}
    while True:
        left = {(one, other) for one, other in pairs
                if all(pair in pairs for pair in zip(goals(table[one]), goals(table[other])))}
        if left == pairs:
            return pairs
        pairs = left


def in_order(table):
    """Whether the states have the numbers of point 15, and all can be reached."""
    found = [0]
    for at in found:
        for goal in goals(table[at]):
            if goal not in found:
                found.append(goal)
    return found == list(range(len(table)))


def same_runs(one, other, first=0, second=0):
    """Whether two tables have the same runs of looks, from their states 0 on."""
    seen = {(first, second)}
    waiting = [(first, second)]
    while waiting:
        first, second = waiting.pop()
        if without_goals(one[first]) != without_goals(other[second]):
            return False
        for pair in zip(goals(one[first]), goals(other[second])):
            if pair not in seen:
                seen.add(pair)
                waiting.append(pair)
    return True


def random_table(rng, many):
    table = []
    for _ in range(many):
        at = [rng.randrange(many) for _ in range(2)]
        table.append(rng.choice([
            ("send", "b", "k", rng.choice([ONE, N]), at[0]), ("set", "x", ONE, at[0]), ("ask", "x", at[0]),
            ("get", "b", (("k", "x", at[0]), ("l", "y", at[1]))), ("get", "b", (("k", "x", at[0]),)),
            ("if", N, at[0], at[1]), ("while", rng.randrange(2), N, at[0], at[1]), END]))
    return tuple(table)


class Alike(unittest.TestCase):
    def test_kinds_parts_labels_and_variables(self):
        table = (END, ("send", "b", "k", ONE, 0), ("send", "c", "k", ONE, 0), ("send", "b", "l", ONE, 0),
                 ("send", "b", "k", N, 0), ("set", "x", ONE, 0), ("set", "y", ONE, 0), ("set", "x", N, 0),
                 ("ask", "x", 0), ("ask", "y", 0), ("get", "b", (("k", "x", 0),)), ("get", "c", (("k", "x", 0),)),
                 ("get", "b", (("l", "x", 0),)), ("get", "b", (("k", "y", 0),)),
                 ("get", "b", (("k", "x", 0), ("l", "x", 0))), ("if", ONE, 0, 0), ("if", N, 0, 0),
                 ("while", 1, ONE, 0, 0), ("while", 2, ONE, 0, 0), ("while", 1, N, 0, 0))
        for one, other in itertools.product(range(len(table)), repeat=2):
            self.assertIs(alike(table, one, other), one == other, (table[one], table[other]))

    def test_alike_states(self):
        table = (("if", N, 1, 2), ("ask", "x", 3), ("ask", "x", 4), END, END)
        self.assertIs(alike(table, 1, 2), True)
        self.assertIs(alike(table, 3, 4), True)
        self.assertIs(alike(table, 1, 3), False)

    def test_the_answers_are_not_exchanged(self):
        table = (("if", N, 2, 3), ("if", N, 3, 2), END, ("ask", "x", 2))
        self.assertIs(alike(table, 0, 1), False)
        table = (("if", N, 2, 2), ("if", N, 3, 2), END, END)
        self.assertIs(alike(table, 0, 1), True)

    def test_states_that_are_told_apart_only_far_behind(self):
        for many in (1, 2, 30, 150):
            chain = [("ask", "x", at + 1) for at in range(many)]
            table = (*chain, END, *[("ask", "x", many + 2 + at) for at in range(many)], ("ask", "y", 0))
            other = (*chain, END, *[("ask", "x", many + 2 + at) for at in range(many)], END)
            self.assertIs(alike(table, 0, many + 1), False)
            self.assertIs(alike(other, 0, many + 1), True)
            self.assertIs(alike(other, 0, many + 2 if many > 1 else many), False)

    def test_circles(self):
        table = (("ask", "x", 1), ("ask", "x", 0), ("ask", "x", 2), ("ask", "x", 4), ("set", "x", ONE, 3))
        for one, other in itertools.product(range(3), repeat=2):
            self.assertIs(alike(table, one, other), True)
        self.assertIs(alike(table, 0, 3), False)

    def test_random_tables(self):
        for seed in range(300):
            table = random_table(random.Random(seed), 6)
            pairs = plain_alike(table)
            for one, other in itertools.product(range(len(table)), repeat=2):
                self.assertIs(alike(table, one, other), (one, other) in pairs)

    def test_values_of_very_many_signs(self):
        def deep(last):
            tree = ONE
            for _ in range(3000):
                tree = ("+", tree, last)
            return tree
        table = (("set", "x", deep(ONE), 3), ("set", "x", deep(ONE), 3), ("set", "x", deep(N), 3), END)
        self.assertIs(alike(table, 0, 1), True)
        self.assertIs(alike(table, 0, 2), False)
        self.assertEqual(len(least_table((("if", N, 1, 2),) + tuple(with_numbers(row, [4]) for row in table[:3]) +
                                         (END,))), 3)


class Least(unittest.TestCase):
    def test_superfluous_states(self):
        self.assertEqual(least_table((END,)), (END,))
        self.assertEqual(least_table((END, END, ("ask", "x", 0))), (END,))
        self.assertEqual(least_table((("ask", "x", 3), ("ask", "y", 1), END, ("ask", "z", 2))),
                         (("ask", "x", 1), ("ask", "z", 2), END))

    def test_alike_states(self):
        table = (("if", N, 2, 4), END, ("ask", "x", 1), END, ("ask", "x", 3))
        self.assertEqual(least_table(table), (("if", N, 1, 1), ("ask", "x", 2), END))

    def test_circles(self):
        self.assertEqual(least_table((("ask", "x", 1), ("ask", "x", 2), ("ask", "x", 0))), (("ask", "x", 0),))
        table = (("while", 0, N, 1, 3), ("ask", "x", 2), ("while", 0, N, 1, 4), END, END)
        self.assertEqual(least_table(table), (("while", 0, N, 1, 2), ("ask", "x", 0), END))

    def test_the_order_of_the_numbers(self):
        table = (("get", "b", (("k", "x", 5), ("l", "y", 3), ("m", "z", 1))), ("if", N, 4, 2), END,
                 ("while", 7, N, 1, 5), ("set", "x", N, 0), ("send", "b", "k", ONE, 4))
        self.assertEqual(least_table(table), (
            ("get", "b", (("k", "x", 1), ("l", "y", 2), ("m", "z", 3))), ("send", "b", "k", ONE, 4),
            ("while", 7, N, 3, 1), ("if", N, 4, 5), ("set", "x", N, 0), END))

    def test_yes_before_no(self):
        self.assertEqual(least_table((("if", N, 2, 1), END, ("ask", "x", 1))),
                         (("if", N, 1, 2), ("ask", "x", 2), END))

    def test_random_tables(self):
        for seed in range(400):
            rng = random.Random(seed)
            table = random_table(rng, rng.randint(1, 9))
            least = least_table(table)
            self.assertIsInstance(least, tuple)
            self.assertTrue(in_order(least))
            self.assertTrue(same_runs(table, least))
            self.assertEqual(len(plain_alike(least)), len(least))
            self.assertEqual(least_table(least), least)
            self.assertEqual(least_table(shuffled(rng, table, 3)), least)

    def test_a_table_of_400_states(self):
        table = tuple(("ask", "x", at + 1) for at in range(399)) + (END,)
        start = time.perf_counter()
        self.assertEqual(least_table(table), table)
        self.assertEqual(len(least_table(table[:-1] + (("ask", "x", 0),))), 1)
        self.assertLess(time.perf_counter() - start, 5)


LETTERS = "if a: 1 { a -> b: x(0) as n } else { a -> b: y(0) as n } "


def many_sets(counts, asks):
    """A clear score with very many sets for b, which gets to know only at last how many letters ago it was where."""
    text = "".join("while a: 1 { " + LETTERS + "} a -> b: x(0) as n " + LETTERS * letters + "a -> b: z(0) as n "
                   for letters in counts)
    return read_score("ends a, b play { " + text + "b asks x " * asks + "}")


class Papers(unittest.TestCase):
    def assert_right(self, score, end, table, notes):
        """That a table is right for its notes, by point 14 and the sets of point 12."""
        self.assertIsInstance(table, tuple)
        self.assertEqual(len(table), len(notes))
        self.assertEqual(notes[0], tuple(rest(score, end, [0])))
        for state, note in zip(table, notes):
            self.assertIsInstance(note, tuple)
            acting = [position for position in note if helpers.must_act(score, end, position)]
            self.assertTrue(acting)
            looks = sorted({look for position in note for look, _ in helpers.looks_from(score, end, position)
                            if look is not None}, key=str)
            if acting == [len(score.statements)]:
                self.assertEqual((state, looks), (END, []))
                continue
            behinds = {}
            for look in looks:
                behinds[look] = tuple(behind(score, end, list(note), look))
                self.assertIn(state[0], (look[0],))
            if state[0] == "get":
                self.assertEqual([choice[0] for choice in state[2]], sorted(look[2] for look in looks))
                expected = {("get", state[1], label, variable): notes[goal] for label, variable, goal in state[2]}
            elif state[0] in ("if", "while"):
                expected = {state[:-2] + ("yes",): notes[state[-2]], state[:-2] + ("no",): notes[state[-1]]}
            else:
                expected = {state[:-1]: notes[state[-1]]}
            self.assertEqual(behinds, expected)

    def clear_scores(self):
        for seed in range(400):
            score = helpers.random_told_score(seed, share=0.15 * (seed % 3))
            if all(helpers.plain_clear(score, end) for end in score.ends):
                yield score

    def test_random_papers_are_right(self):
        many = 0
        for score in self.clear_scores():
            many += 1
            found = paper(score)
            self.assertEqual(list(found), list(score.ends))
            for end, (table, notes) in found.items():
                self.assert_right(score, end, table, notes)
        self.assertGreater(many, 200)

    def test_end_tables_are_the_least_tables(self):
        smaller = 0
        for score in self.clear_scores():
            papers, tables = paper(score), end_tables(score)
            self.assertEqual(list(tables), list(score.ends))
            for end in score.ends:
                self.assertEqual(tables[end], least_table(papers[end][0]))
                self.assertTrue(in_order(tables[end]))
                self.assertTrue(same_runs(papers[end][0], tables[end]))
                self.assertEqual(len(plain_alike(tables[end])), len(tables[end]))
                smaller += len(tables[end]) < len(papers[end][0])
        self.assertGreater(smaller, 20)

    def test_example(self):
        text = "ends a, b play { if a: 1 { a -> b: x(0) as n } else { a -> b: y(0) as n } }"
        self.assertEqual(end_tables(read_score(text))["b"], (("get", "a", (("x", "n", 1), ("y", "n", 1))), ("end",)))

    def test_each_kind_of_state(self):
        score = read_score("ends a, b play { while a: n { a asks n if a: n { a -> b: more(n) as k } else "
                           "{ a -> b: less(1) as j } b sets k = j b -> a: back(k) as n } a -> b: stop(0) as k }")
        tables = end_tables(score)
        self.assertEqual(tables["a"], (
            ("while", 0, N, 1, 2), ("ask", "n", 3), ("send", "b", "stop", ("number", 0), 4), ("if", N, 5, 6), END,
            ("send", "b", "more", N, 7), ("send", "b", "less", ONE, 7), ("get", "b", (("back", "n", 0),))))
        self.assertEqual(tables["b"], (
            ("get", "a", (("less", "j", 1), ("more", "k", 1), ("stop", "k", 2))), ("set", "k", ("name", "j"), 3), END,
            ("send", "a", "back", ("name", "k"), 0)))
        papers = paper(score)
        for end in "ab":
            self.assert_right(score, end, *papers[end])

    def test_labels_are_in_ascending_order(self):
        words = ("b", "a", "B", "a1", "ab", "a_", "Z", "a10")
        text = ""
        for word in words:
            text = "if a: 1 { a -> b: " + word + "(0) as n } else { " + text + " }"
        text = text.replace("else {  }", "else { a -> b: last(0) as n }")
        state = end_tables(read_score("ends a, b play { " + text + " }"))["b"][0]
        self.assertEqual([choice[0] for choice in state[2]], sorted(words + ("last",)))

    def test_ends_without_anything_to_do(self):
        self.assertEqual(end_tables(read_score("ends a, b play { }")), {"a": (END,), "b": (END,)})
        self.assertEqual(paper(read_score("ends a, b play { while a: 1 { a asks x } }"))["b"], ((END,), ((0, 1, 2),)))

    def test_unclear_scores(self):
        for seed in range(150):
            score = helpers.random_score(seed)
            if all(helpers.plain_clear(score, end) for end in score.ends):
                continue
            for function in (paper, end_tables):
                with self.assertRaises(Unclear) as caught:
                    function(score)
                error = caught.exception
                self.assertIs(is_witness(score, error.end, error.first, error.second), True)

    def test_400_states_are_enough(self):
        score = many_sets((7, 5), 79)
        table, notes = paper(score)["b"]
        self.assertEqual(len(table), 400)
        self.assertEqual(len(helpers.plain_sets(score, "b")), 400)
        self.assert_right(score, "b", table, notes)
        self.assertEqual(end_tables(score)["b"], least_table(table))

    def test_too_large(self):
        start = time.perf_counter()
        for score in (many_sets((7, 5), 80), many_sets((8,), 0), many_sets((40,), 3)):
            for function in (paper, end_tables):
                with self.assertRaises(TooLarge):
                    function(score)
        self.assertLess(time.perf_counter() - start, 10)

    def test_unclear_goes_before_too_large(self):
        text = ("ends a, b, c play { while a: 1 { " + LETTERS + "} a -> b: x(0) as n " + LETTERS * 20 +
                "a -> b: z(0) as n if a: 1 { c asks x } else { } }")
        with self.assertRaises(Unclear) as caught:
            paper(read_score(text))
        self.assertEqual(caught.exception.end, "c")

    def test_what_is_returned_is_new(self):
        score = read_score("ends a, b play { a -> b: k(1) as n }")
        for function in (paper, end_tables):
            first = function(score)
            kept = copy.deepcopy(first)
            first.clear()
            self.assertEqual(function(score), kept)

    def test_arguments_stay_as_they_were(self):
        score = read_score("ends a, b play { while a: 1 { a -> b: k(1) as n } a -> b: l(1) as n }")
        before = copy.deepcopy(vars(score))
        tables = end_tables(score)
        paper(score)
        kept = copy.deepcopy(tables)
        least_table(tables["a"])
        alike(tables["a"], 0, 1)
        self.assertEqual((vars(score), tables), (before, kept))


if __name__ == "__main__":
    unittest.main()
