"""Points 9 to 11: ways, places, looks, and which positions agree."""

import copy
import itertools
import random
import unittest

import helpers
from helpers import ONE, ZERO
from onescore.flat import Score, read_score
from onescore.ways import agree, concerns, is_way, place, seen

TEXT = ("ends a, b, c play { while a: n { a -> b: k(n + 1) as m if b: m { b -> a: yes(0) as r } else { c asks x } "
        "a sets n = 2 } b -> c: z(1) as y }")
N, M = ("name", "n"), ("name", "m")
LOOP = [(0, "yes"), (1, ""), (2, "yes"), (3, ""), (5, "")]
OTHER_LOOP = [(0, "yes"), (1, ""), (2, "no"), (4, ""), (5, "")]


class Ways(unittest.TestCase):
    def setUp(self):
        self.score = read_score(TEXT)

    def test_ways_that_stop_anywhere(self):
        whole = LOOP + OTHER_LOOP + [(0, "no"), (6, "")]
        for many in range(len(whole) + 1):
            self.assertIs(is_way(self.score, whole[:many]), True, many)

    def test_places(self):
        whole = LOOP + OTHER_LOOP + [(0, "no"), (6, "")]
        for many in range(len(whole)):
            self.assertEqual(place(self.score, whole[:many]), whole[many][0])
        self.assertEqual(place(self.score, whole), 7)

    def test_steps_that_are_wrong(self):
        for way in ([(1, "")], [(-7, "yes")], [(0, "")], [(0, "maybe")], [(0, "Yes")], [(0, "yes"), (0, "yes")],
                    [(0, "yes"), (1, "yes")], [(0, "yes"), (1, "no")], LOOP[:2] + [(2, "")], LOOP[:3] + [(4, "")],
                    LOOP[:2] + [(2, "no"), (3, "")], LOOP + [(6, "")], LOOP + LOOP[1:], [(0, "no"), (6, ""), (7, "")],
                    [(0, "no"), (6, ""), (0, "yes")], [(0, "no"), (6, ""), (-1, "")], [(100, "")], LOOP[1:]):
            self.assertIs(is_way(self.score, way), False, way)

    def test_a_score_without_statements(self):
        score = read_score("ends a play { }")
        self.assertIs(is_way(score, []), True)
        self.assertEqual(place(score, []), 0)
        for step in ((0, ""), (0, "yes"), (1, "")):
            self.assertIs(is_way(score, [step]), False)

    def test_a_while_may_be_answered_yes_any_number_of_times(self):
        score = read_score("ends a play { while a: 0 { } }")
        self.assertIs(is_way(score, [(0, "yes")] * 50 + [(0, "no")]), True)
        self.assertIs(is_way(score, [(0, "no"), (0, "yes")]), False)
        self.assertEqual((place(score, [(0, "yes")]), place(score, [(0, "no")])), (0, 1))

    def test_random_lists_against_all_ways(self):
        for seed in range(60):
            score = helpers.random_score(seed, many=4)
            ways = helpers.all_ways(score, 4)
            rng = random.Random(seed)
            steps = [(at, answer) for at in range(-1, len(score.statements) + 1) for answer in ("", "yes", "no")]
            for way, goal in ways:
                self.assertIs(is_way(score, way), True)
                self.assertEqual(place(score, way), goal)
            right = [way for way, _ in ways]
            for _ in range(200):
                way = [rng.choice(steps) for _ in range(rng.randint(0, 4))]
                self.assertIs(is_way(score, way), way in right)


class Looks(unittest.TestCase):
    def test_each_statement_for_each_end(self):
        score = read_score(TEXT)
        way = LOOP + OTHER_LOOP + [(0, "no"), (6, "")]
        send, get = ("send", "b", "k", ("+", N, ONE)), ("get", "a", "k", "m")
        self.assertEqual(seen(score, way, "a"), [
            ("while", 0, N, "yes"), send, ("get", "b", "yes", "r"), ("set", "n", ("number", 2)),
            ("while", 0, N, "yes"), send, ("set", "n", ("number", 2)), ("while", 0, N, "no")])
        self.assertEqual(seen(score, way, "b"), [
            get, ("if", M, "yes"), ("send", "a", "yes", ZERO), get, ("if", M, "no"), ("send", "c", "z", ONE)])
        self.assertEqual(seen(score, way, "c"), [("ask", "x"), ("get", "b", "z", "y")])
        self.assertEqual(seen(score, [], "a"), [])

    def test_concerns(self):
        score = read_score(TEXT)
        concerned = ["a", "ab", "b", "ab", "c", "a", "bc"]
        for position, end in itertools.product(range(7), "abc"):
            self.assertIs(concerns(score, position, end), end in concerned[position], (position, end))

    def test_whiles_of_different_positions_look_different(self):
        score = read_score("ends a play { while a: 1 { } while a: 1 { } if a: 1 { } else { } }")
        self.assertEqual(seen(score, [(0, "no"), (1, "yes"), (1, "no"), (2, "no")], "a"),
                         [("while", 0, ONE, "no"), ("while", 1, ONE, "yes"), ("while", 1, ONE, "no"), ("if", ONE, "no")])

    def test_random_ways(self):
        for seed in range(60):
            score = helpers.random_score(seed)
            for way, end in itertools.product(helpers.all_ways(score, 4), score.ends):
                plain = []
                for position, answer in way[0]:
                    goal = score.next[position][answer == "no"]
                    looks = [look for look, other in helpers.looks_from(score, end, position)
                             if look is not None and other == goal and (not answer or look[-1] == answer)]
                    plain += looks
                self.assertEqual(seen(score, way[0], end), plain)

    def test_what_is_returned_is_new_and_the_way_stays(self):
        score = read_score(TEXT)
        way = list(LOOP)
        first = seen(score, way, "a")
        kept = copy.deepcopy(first)
        first.clear()
        self.assertEqual(seen(score, way, "a"), kept)
        is_way(score, way)
        place(score, way)
        self.assertEqual(way, LOOP)


# Groups of statements: those of one group agree for a, those of different groups do not, but for gets.
GROUPS = (
    ["a -> b: k(n) as x", "a -> b: k(n) as y"], ["a -> b: l(n) as x"], ["a -> b: k(m) as x"], ["a -> c: k(n) as x"],
    ["b -> a: k(n) as x", "b -> a: k(m) as x"], ["c -> a: k(n) as x"],
    ["a sets x = 1 + n", "a sets x = (1 + n)"], ["a sets y = 1 + n"], ["a sets x = n + 1"],
    ["a asks x", "a asks x"], ["a asks y"],
    ["if a: n { } else { }", "if a: n { a asks z } else { }"], ["if a: m { } else { }"],
    ["while a: n { }"], ["while a: n { }"],
)


class Agree(unittest.TestCase):
    def setUp(self):
        texts = [text for group in GROUPS for text in group]
        self.score = read_score("ends a, b, c play { " + " ".join(texts) + " }")
        numbers = [at for at, group in enumerate(GROUPS) for _ in group]
        # The position of the ask inside of an if is left out.
        self.positions = [at for at, row in enumerate(self.score.statements) if row != ("ask", "a", "z")]
        self.groups = dict(zip(self.positions, numbers))

    def test_positions_agree_exactly_with_those_of_their_group(self):
        for one, other in itertools.product(self.positions, repeat=2):
            self.assertIs(agree(self.score, "a", one, other), self.groups[one] == self.groups[other], (one, other))

    def test_end_agrees_with_nothing_else(self):
        end = len(self.score.statements)
        self.assertIs(agree(self.score, "a", end, end), True)
        for position in self.positions:
            self.assertIs(agree(self.score, "a", end, position), False)
            self.assertIs(agree(self.score, "a", position, end), False)

    def test_gets(self):
        score = read_score("ends a, b, c play { b -> a: k(1) as x b -> a: l(2) as y b -> a: k(3) as x "
                           "b -> a: k(1) as y c -> a: k(1) as x c -> a: l(1) as x b -> a: l(1) as x }")
        pairs = {(0, 1), (0, 2), (0, 6), (1, 2), (1, 3), (2, 6), (3, 6), (4, 5)}
        for one, other in itertools.product(range(7), repeat=2):
            expected = one == other or (min(one, other), max(one, other)) in pairs
            self.assertIs(agree(score, "a", one, other), expected, (one, other))

    def test_the_same_message_for_both_ends(self):
        score = read_score("ends a, b play { a -> b: k(1) as x a -> b: k(2) as x a -> b: k(1) as y b -> a: k(1) as x }")
        self.assertEqual([agree(score, "a", 0, at) for at in range(4)], [True, False, True, False])
        self.assertEqual([agree(score, "b", 0, at) for at in range(4)], [True, True, False, False])

    def test_against_the_words_of_the_point(self):
        for seed in range(300):
            rng = random.Random(seed)
            score = Score((("a", "b", "c"), (), helpers.random_block(rng, ("a", "b", "c"), 12)))
            for end in score.ends:
                acting = [at for at in range(len(score.statements) + 1) if helpers.must_act(score, end, at)]
                for one, other in itertools.product(acting, repeat=2):
                    self.assertIs(agree(score, end, one, other), helpers.plain_agree(score, end, one, other))

    def test_values_of_very_many_signs(self):
        long = "1" + "+1" * 1400
        score = read_score(f"ends a play {{ a sets x = {long} a sets x = {long} a sets x = {long[:-1]}2 }}")
        self.assertEqual([agree(score, "a", 0, at) for at in range(4)], [True, True, False, False])


if __name__ == "__main__":
    unittest.main()
