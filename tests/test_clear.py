"""Points 11 and 12: rests, sets behind looks, witnesses."""

import copy
import itertools
import random
import time
import unittest

import helpers
from helpers import ONE
from onescore.clear import behind, is_witness, rest, witness
from onescore.flat import Score, read_score
from onescore.ways import is_way, place, seen

TEXT = ("ends a, b, c play { while a: n { a -> b: k(n) as m if b: m { b -> a: yes(0) as r } else { c asks x } "
        "a sets n = 2 } b -> c: z(1) as y }")
N, M = ("name", "n"), ("name", "m")


class Sets(unittest.TestCase):
    def setUp(self):
        self.score = read_score(TEXT)

    def test_rests(self):
        for end, positions, expected in (
                ("a", [0], [0]), ("a", [2], [2, 3, 4, 5]), ("a", [6], [6, 7]), ("a", [4], [4, 5]),
                ("b", [0], [0, 1, 6]), ("b", [5], [0, 1, 5, 6]), ("b", [1], [1]), ("b", [4], [0, 1, 4, 5, 6]),
                ("c", [0], [0, 1, 2, 3, 4, 5, 6]), ("c", [6], [6]), ("c", [3], [0, 1, 2, 3, 4, 5, 6]),
                ("a", [7], [7]), ("b", [], []), ("b", [7, 1], [1, 7]), ("a", [6, 1, 6], [1, 6, 7])):
            self.assertEqual(rest(self.score, end, positions), expected, (end, positions))

    def test_rests_of_empty_blocks(self):
        score = read_score("ends a, b play { while a: 1 { } if a: 1 { } else { b asks x } }")
        self.assertEqual(rest(score, "b", [0]), [0, 1, 2, 3])
        self.assertEqual(rest(score, "b", [2]), [2])
        self.assertEqual(rest(score, "a", [2]), [2, 3])

    def test_behind_each_kind_of_look(self):
        for end, positions, look, expected in (
                ("a", [0], ("while", 0, N, "yes"), [1]), ("a", [0], ("while", 0, N, "no"), [6, 7]),
                ("a", [1], ("send", "b", "k", N), [2, 3, 4, 5]), ("a", [2, 3, 4, 5], ("get", "b", "yes", "r"), [5]),
                ("a", [2, 3, 4, 5], ("set", "n", ("number", 2)), [0]),
                ("b", [0, 1, 6], ("get", "a", "k", "m"), [2]), ("b", [2], ("if", M, "yes"), [3]),
                ("b", [2], ("if", M, "no"), [0, 1, 4, 5, 6]), ("b", [3], ("send", "a", "yes", ("number", 0)), [0, 1, 5, 6]),
                ("b", [0, 1, 6], ("send", "c", "z", ONE), [7]),
                ("c", [0, 1, 2, 3, 4, 5, 6], ("ask", "x"), [0, 1, 2, 3, 4, 5, 6]),
                ("c", [0, 1, 2, 3, 4, 5, 6], ("get", "b", "z", "y"), [7])):
            self.assertEqual(behind(self.score, end, positions, look), expected, (end, look))

    def test_looks_that_no_statement_gives(self):
        for end, positions, look in (
                ("a", [0], ("while", 1, N, "yes")), ("a", [0], ("while", 0, M, "yes")), ("a", [0], ("while", 0, N, "")),
                ("a", [0], ("if", N, "yes")), ("a", [1], ("send", "c", "k", N)), ("a", [1], ("send", "b", "l", N)),
                ("a", [1], ("send", "b", "k", ("+", N, ONE))), ("a", [1], ("get", "b", "k", "m")),
                ("b", [0, 1, 6], ("get", "a", "k", "n")), ("b", [0, 1, 6], ("get", "c", "k", "m")),
                ("b", [0, 1, 6], ("if", M, "yes")), ("b", [2], ("if", M, "maybe")), ("c", [7], ("ask", "x")),
                ("c", [6], ("ask", "x")), ("a", [5], ("set", "n", ONE)), ("a", [5], ("set", "m", ("number", 2))),
                ("a", [], ("set", "n", ("number", 2)))):
            self.assertEqual(behind(self.score, end, positions, look), [], (end, look))

    def test_one_look_of_several_statements(self):
        score = read_score("ends a, b play { if a: 1 { a -> b: k(1) as x b asks y } else { a -> b: k(2) as x } "
                           "a -> b: k(3) as y }")
        first = rest(score, "b", [0])
        self.assertEqual(first, [0, 1, 3])
        self.assertEqual(behind(score, "b", first, ("get", "a", "k", "x")), [2, 4])
        self.assertEqual(behind(score, "b", [2, 4], ("get", "a", "k", "y")), [5])

    def test_random_scores_against_the_words_of_the_point(self):
        for seed in range(200):
            score = helpers.random_score(seed)
            for end in score.ends:
                sets = helpers.plain_sets(score, end)
                looks = {look for behinds in sets.values() for look in behinds} | {("ask", "q"), ("if", ONE, "")}
                for positions, behinds in sets.items():
                    for look in looks:
                        self.assertEqual(behind(score, end, sorted(positions), look), sorted(behinds.get(look, ())))
                for position in range(len(score.statements) + 1):
                    self.assertEqual(rest(score, end, [position]), sorted(helpers.plain_rest(score, end, {position})))

    def test_the_set_behind_looks_holds_the_places_of_ways(self):
        for seed in range(40):
            score = helpers.random_score(seed, many=4)
            for end in score.ends:
                places = {}
                for way, goal in helpers.all_ways(score, 6):
                    places.setdefault(tuple(seen(score, way, end)), set()).add(goal)
                for looks, goals in places.items():
                    positions = rest(score, end, [0])
                    for look in looks:
                        positions = behind(score, end, positions, look)
                    self.assertLessEqual(goals, set(positions))

    def test_what_is_returned_is_new_and_arguments_stay(self):
        positions = [6, 0]
        result = rest(self.score, "a", positions)
        self.assertEqual((positions, result), ([6, 0], [0, 6, 7]))
        result.clear()
        self.assertEqual(rest(self.score, "a", positions), [0, 6, 7])
        self.assertIsNot(rest(self.score, "a", [0]), rest(self.score, "a", [0]))
        again = behind(self.score, "a", positions, ("while", 0, N, "yes"))
        again.append(7)
        self.assertEqual(behind(self.score, "a", positions, ("while", 0, N, "yes")), [1])
        self.assertEqual(positions, [6, 0])

    def test_a_value_of_very_many_signs(self):
        long = "1" + "+1" * 1400
        text = f"ends a, b play {{ a sets x = {long} a sets x = {long[:-1]}2 }}"
        score, same = read_score(text), read_score(text)
        looks = [("set", "x", statement[3]) for statement in same.statements]
        self.assertEqual([behind(score, "a", [0], look) for look in looks], [[1], []])
        self.assertEqual(rest(score, "b", [0]), [0, 1, 2])


CLEAR = (
    "ends a play { }",
    "ends a, b play { }",
    "ends a play { while a: 1 { if a: 2 { a asks x } else { a asks y } } }",
    "ends a, b play { if a: 1 { a -> b: x(0) as n } else { a -> b: y(0) as n } }",
    "ends a, b play { if a: 1 { a -> b: x(0) as n } else { a -> b: y(0) as m } }",
    "ends a, b play { if a: 1 { a -> b: x(0) as n } else { a -> b: x(1) as n } b asks y }",
    "ends a, b play { while a: n { a -> b: more(n) as k a sets n = n - 1 } a -> b: stop(0) as k }",
    "ends a, b play { if a: 1 { b asks x } else { b asks x } }",
    "ends a, b play { if a: 1 { b sets x = y + 1 } else { b sets x = y + 1 } }",
    "ends a, b play { if a: 1 { if b: 2 { } else { } } else { if b: 2 { } else { } } }",
    "ends a, b play { if a: 1 { b -> a: k(n) as x } else { b -> a: k(n) as y } }",
    "ends a, b, c play { if a: 1 { a -> b: x(0) as n b -> c: x(0) as n } else { a -> b: y(0) as n b -> c: x(0) as n } }",
    "ends a, b play { while a: 1 { } b asks x }",
)
UNCLEAR = (
    ("b", "ends a, b play { if a: 1 { a -> b: x(0) as n } else { } }"),
    ("b", "ends a, b play { if a: 1 { a -> b: x(0) as n } else { a -> b: x(0) as m } }"),
    ("b", "ends a, b play { if a: 1 { b asks x } else { b asks y } }"),
    ("b", "ends a, b play { if a: 1 { b asks x } else { b sets x = 0 } }"),
    ("b", "ends a, b play { if a: 1 { b sets x = y + 1 } else { b sets x = 1 + y } }"),
    ("b", "ends a, b play { if a: 1 { if b: 2 { } else { } } else { if b: 3 { } else { } } }"),
    ("b", "ends a, b play { if a: 1 { while b: 2 { } } else { while b: 2 { } } }"),
    ("b", "ends a, b play { if a: 1 { b -> a: k(n) as x } else { b -> a: k(m) as x } }"),
    ("b", "ends a, b play { if a: 1 { b -> a: k(n) as x } else { b -> a: l(n) as x } }"),
    ("b", "ends a, b, c play { if a: 1 { b -> a: k(n) as x } else { b -> c: k(n) as x } c asks x }"),
    ("b", "ends a, b, c play { if a: 1 { a -> b: k(n) as x c asks x } else { c -> b: l(n) as x } }"),
    ("b", "ends a, b play { while a: 1 { b asks x } }"),
    ("b", "ends a, b play { while a: 1 { a -> b: k(0) as x } }"),
)
DEEP = (
    # The ways to a witness must go through loops many times, side by side.
    "ends a, b play { if a: 1 { while a: 1 { FIVE } ONE } else { while a: 2 { SEVEN } FOUR b asks y } }",
    "ends a, b play { while a: 1 { while a: 1 { while a: 1 { FOUR } SEVEN } ONE } a -> b: z(0) as x "
    "while a: 2 { while a: 1 { FIVE } SEVEN } b asks y }",
    "ends a, b, c play { while c: 1 { while b: 1 { FIVE b -> a: m(1) as z } a -> b: n(0) as x } FOUR }",
)
WORD = "a -> b: k(0) as x "


def deep_scores():
    for text in DEEP:
        for name, many in (("ONE", 1), ("FOUR", 4), ("FIVE", 5), ("SEVEN", 7)):
            text = text.replace(name, WORD * many)
        yield read_score(text)


class Witnesses(unittest.TestCase):
    def assert_witness(self, score):
        """That what witness returns is one, by the words of point 11."""
        end, first, second = witness(score)
        self.assertIn(end, score.ends)
        for way in (first, second):
            self.assertIsInstance(way, list)
            self.assertTrue(is_way(score, way))
        self.assertEqual(seen(score, first, end), seen(score, second, end))
        places = (place(score, first), place(score, second))
        self.assertTrue(all(helpers.must_act(score, end, at) for at in places))
        self.assertFalse(helpers.plain_agree(score, end, *places))
        self.assertIs(is_witness(score, end, first, second), True)
        self.assertIs(is_witness(score, end, second, first), True)
        self.assertLessEqual(len(first) + len(second), 4 * (len(score.statements) + 1) ** 2)
        return end

    def test_clear_scores(self):
        for text in CLEAR:
            self.assertIsNone(witness(read_score(text)), text)

    def test_unclear_scores(self):
        for end, text in UNCLEAR:
            score = read_score(text)
            self.assertEqual(self.assert_witness(score), end, text)

    def test_random_scores_against_all_sets(self):
        counts = {True: 0, False: 0}
        scores = [helpers.random_score(seed) for seed in range(700)]
        scores += [helpers.random_told_score(seed, share=0.1 * (seed % 5)) for seed in range(700)]
        for score in scores:
            is_clear = all(helpers.plain_clear(score, end) for end in score.ends)
            counts[is_clear] += 1
            if is_clear:
                self.assertIsNone(witness(score))
            else:
                self.assertFalse(helpers.plain_clear(score, self.assert_witness(score)))
        self.assertGreater(min(counts.values()), 300)

    def test_loops_inside_of_loops(self):
        for score in deep_scores():
            self.assert_witness(score)

    def test_loops_of_lengths_without_a_common_part(self):
        text = ("ends a, b play { if a: 1 { while a: 1 { " + WORD * 11 + "} a -> b: z(0) as x } else { " + WORD * 3 +
                "while a: 2 { " + WORD * 13 + "} a -> b: z(0) as x b asks y } }")
        score = read_score(text)
        self.assert_witness(score)
        _, first, second = witness(score)
        self.assertGreater(len(first) + len(second), 2 * (len(score.statements) + 1))

    def test_large_scores_are_answered_at_once(self):
        for seed in range(40):
            rng = random.Random(seed)
            ends = tuple("abcdef")
            tree = (ends, (), helpers.told(helpers.random_block(rng, ends, 60), ends))
            if helpers.broken_rule(tree) is None:
                start = time.perf_counter()
                self.assertIsNone(witness(Score(tree)))
                self.assertLess(time.perf_counter() - start, 5)

    def test_a_score_with_very_many_sets(self):
        letters = "if a: 1 { a -> b: x(0) as n } else { a -> b: y(0) as n } "
        head = "ends a, b play { while a: 1 { " + letters + "} a -> b: x(0) as n " + letters * 40
        start = time.perf_counter()
        self.assertIsNone(witness(read_score(head + "a -> b: z(0) as n }")))
        self.assertEqual(self.assert_witness(read_score(head + "}")), "b")
        self.assertLess(time.perf_counter() - start, 10)

    def test_what_is_returned_is_new(self):
        score = read_score(UNCLEAR[-1][1])
        first = witness(score)
        kept = copy.deepcopy(first)
        first[1].clear()
        first[2].append((0, "no"))
        self.assertEqual(witness(score), kept)


class IsWitness(unittest.TestCase):
    TEXT = "ends a, b, c play { if a: 1 { a -> b: x(0) as n c asks x b asks p } else { a -> b: x(0) as n b asks q } c asks x }"
    FIRST, SECOND = [(0, "yes"), (1, ""), (2, "")], [(0, "no"), (4, "")]

    def setUp(self):
        self.score = read_score(self.TEXT)

    def test_a_witness(self):
        self.assertIs(is_witness(self.score, "b", self.FIRST, self.SECOND), True)
        self.assertIs(is_witness(self.score, "b", self.SECOND, self.FIRST), True)
        self.assertIs(is_witness(self.score, "b", tuple(self.FIRST), self.SECOND), True)

    def test_lists_that_are_no_ways(self):
        for wrong in ([(0, "")], [(0, "yes"), (2, "")], [(4, "")], [(0, "no"), (4, "yes")], self.FIRST[1:],
                      self.SECOND + [(6, "")], [(99, "")], [(-1, "no")]):
            self.assertIs(is_witness(self.score, "b", wrong, self.SECOND), False, wrong)
            self.assertIs(is_witness(self.score, "b", self.FIRST, wrong), False, wrong)

    def test_ways_that_look_different(self):
        # The ends a and c see other things than b does.
        self.assertIs(is_witness(self.score, "a", self.FIRST, self.SECOND), False)
        self.assertIs(is_witness(self.score, "b", self.FIRST, self.SECOND + [(5, "")]), False)
        self.assertIs(is_witness(self.score, "b", self.FIRST + [(3, "")], self.SECOND), False)
        self.assertIs(is_witness(self.score, "b", self.FIRST + [(3, "")], self.SECOND + [(5, "")]), False)

    def test_looks_that_differ_in_one_part_only(self):
        score = read_score("ends a, b play { if a: 1 { b sets x = 1 b asks p } else { b sets x = 2 b asks q } }")
        self.assertIs(is_witness(score, "b", [(0, "yes"), (1, "")], [(0, "no"), (3, "")]), False)
        self.assertIs(is_witness(score, "b", [(0, "yes")], [(0, "no")]), True)
        score = read_score("ends a, b play { if b: 1 { b asks p } else { b asks q } while b: 1 { } while b: 1 { } }")
        self.assertIs(is_witness(score, "b", [(0, "yes")], [(0, "no")]), False)

    def test_places_at_which_the_end_need_not_act(self):
        self.assertIs(is_witness(self.score, "b", self.FIRST[:2], self.SECOND), False)
        self.assertIs(is_witness(self.score, "b", self.FIRST, self.SECOND[:0]), False)
        self.assertIs(is_witness(self.score, "b", [], []), False)

    def test_places_that_agree(self):
        self.assertIs(is_witness(self.score, "b", [(0, "yes")], [(0, "no")]), False)
        self.assertIs(is_witness(self.score, "b", self.FIRST, self.FIRST), False)
        self.assertIs(is_witness(self.score, "c", self.FIRST[:2], self.SECOND + [(5, "")]), False)
        whole = self.FIRST + [(3, ""), (6, "")]
        self.assertIs(is_witness(self.score, "b", whole, whole[:-1] + [(6, "")]), False)

    def test_end_against_a_statement(self):
        score = read_score("ends a, b play { if a: 1 { a -> b: x(0) as n } else { } }")
        self.assertIs(is_witness(score, "b", [(0, "yes")], [(0, "no")]), True)
        self.assertIs(is_witness(score, "b", [(0, "no")], [(0, "no")]), False)

    def test_random_pairs_of_ways(self):
        for seed in range(120):
            score = helpers.random_score(seed, many=5)
            ways = helpers.all_ways(score, 4)[:25]
            for end, (first, one), (second, other) in itertools.product(score.ends, ways, ways):
                expected = (helpers.must_act(score, end, one) and helpers.must_act(score, end, other)
                            and not helpers.plain_agree(score, end, one, other)
                            and seen(score, first, end) == seen(score, second, end))
                self.assertIs(is_witness(score, end, first, second), expected)

    def test_values_of_very_many_signs(self):
        long = "1" + "+1" * 900
        score = read_score(f"ends a, b play {{ if a: 1 {{ b sets x = {long} }} else {{ b sets x = {long} b asks y }} }}")
        self.assertIs(is_witness(score, "b", [(0, "yes"), (1, "")], [(0, "no"), (2, "")]), True)
        self.assertEqual(witness(score)[0], "b")

    def test_arguments_stay_as_they_were(self):
        first, second = list(self.FIRST), list(self.SECOND)
        is_witness(self.score, "b", first, second)
        self.assertEqual((first, second), (self.FIRST, self.SECOND))


if __name__ == "__main__":
    unittest.main()
