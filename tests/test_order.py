"""Points 43 and 44: what comes before what in a plain run, clocks and rounds."""

import copy
import random
import time
import unittest

from helpers import random_score, talk
from onescore.flat import Score, read_score
from onescore.meaning import PlainRun, even_cuts, is_even
from onescore.order import apart, clocks, comes_before, rounds
from onescore.world import World

TRIANGLE = "ends a, b, c play { a asks n a -> b: k(1) as x c sets y = 2 b -> c: k(x + 1) as x a sets n = 0 c -> a: k(3) as x }"


def run_of(text, **inputs):
    score = read_score(text)
    return PlainRun(score, {end: inputs.get(end, []) for end in score.ends})


def runs():
    for seed in range(40):
        tree, inputs = talk(seed, many=6)
        yield PlainRun(Score(tree), inputs)
    for seed in range(60):
        score = random_score(seed, most_ends=4, many=8)
        yield PlainRun(score, {end: [seed] for end in score.ends})


def before_each(run):
    """For each deed, the set of the indexes of those that come before it, by single steps backwards."""
    found = []
    for index, deed in enumerate(run.deeds):
        near = [other for other in range(index) if run.deeds[other][1] == deed[1]]
        if deed[0] == "get":
            near.append(index - 1)
        found.append(set(near).union(*[found[other] for other in near]))
    return found


def greatest_round(index, run):
    """1 more than the greatest number of messages on a chain to a deed, by all chains."""
    most, waiting = {index: 0}, [index]
    while waiting:
        at = waiting.pop()
        deed = run.deeds[at]
        steps = [(other, 0) for other in range(at) if run.deeds[other][1] == deed[1]][-1:]
        if deed[0] == "get":
            steps.append((at - 1, 1))
        for other, messages in steps:
            if most[at] + messages > most.get(other, -1):
                most[other] = most[at] + messages
                waiting.append(other)
    return 1 + max(most.values())


class Order(unittest.TestCase):
    def test_a_triangle(self):
        run = run_of(TRIANGLE)
        self.assertEqual([deed[:2] for deed in run.deeds],
                         [("ask", "a"), ("send", "a"), ("get", "b"), ("set", "c"), ("send", "b"), ("get", "c"), ("set", "a"),
                          ("send", "c"), ("get", "a")])
        self.assertEqual(clocks(run), [(1, 0, 0), (2, 0, 0), (2, 1, 0), (0, 0, 1), (2, 2, 0), (2, 2, 2), (3, 0, 0), (2, 2, 3),
                                       (4, 2, 3)])
        self.assertEqual(rounds(run), [1, 1, 2, 1, 2, 3, 1, 3, 4])
        self.assertIs(comes_before(run, 0, 5), True)
        self.assertIs(comes_before(run, 5, 0), False)
        self.assertIs(comes_before(run, 3, 4), False)
        self.assertIs(comes_before(run, 6, 7), False)
        self.assertIs(apart(run, 3, 4), True)
        self.assertIs(apart(run, 4, 3), True)
        self.assertIs(apart(run, 6, 7), True)
        self.assertIs(apart(run, 0, 5), False)
        self.assertIs(apart(run, 5, 0), False)

    def test_a_deed_with_itself(self):
        run = run_of(TRIANGLE)
        for index in range(len(run.deeds)):
            self.assertIs(comes_before(run, index, index), False)
            self.assertIs(apart(run, index, index), False)

    def test_no_deeds(self):
        run = run_of("ends a, b play { }")
        self.assertEqual((clocks(run), rounds(run)), ([], []))

    def test_one_end(self):
        run = run_of("ends a play { a asks n a asks n a asks n }", a=[1])
        self.assertEqual((clocks(run), rounds(run)), ([(1,), (2,), (3,)], [1, 1, 1]))
        self.assertEqual([[comes_before(run, first, second) for second in range(3)] for first in range(3)],
                         [[False, True, True], [False, False, True], [False] * 3])

    def test_equal_deeds_are_different_deeds(self):
        run = run_of("ends a, b play { a asks n b asks n a asks n b asks n }")
        self.assertEqual(clocks(run), [(1, 0), (0, 1), (2, 0), (0, 2)])
        self.assertIs(comes_before(run, 0, 2), True)
        self.assertIs(apart(run, 0, 3), True)

    def test_deeds_counted_backwards(self):
        pairs = {True: 0, False: 0}
        for run in runs():
            ends = list(run.rows)
            before = before_each(run)
            expected = [tuple(sum(run.deeds[other][1] == end for other in before[index] | {index}) for end in ends)
                        for index in range(len(run.deeds))]
            found = clocks(run)
            self.assertEqual(found, expected)
            for first in range(0, len(run.deeds), 1 + len(run.deeds) // 25):
                for second in range(len(run.deeds)):
                    answer = first in before[second]
                    pairs[answer] += 1
                    self.assertIs(comes_before(run, first, second), answer)
                    self.assertIs(apart(run, first, second),
                                  first != second and not answer and second not in before[first])
                    # By the clocks alone.
                    self.assertEqual(answer, first != second and
                                     all(one <= other for one, other in zip(found[first], found[second])))
        self.assertGreater(min(pairs.values()), 1000)

    def test_clocks_and_even_cuts(self):
        for run in runs():
            for clock in clocks(run):
                self.assertIs(is_even(run, clock), True)
        run = run_of(TRIANGLE)
        for cut in even_cuts(run):
            for index, (deed, clock) in enumerate(zip(run.deeds, clocks(run))):
                end = "abc".index(deed[1])
                if clock[end] <= cut[end]:
                    self.assertTrue(all(one <= other for one, other in zip(clock, cut)), (cut, index))

    def test_rounds_by_chains(self):
        for run in runs():
            found = rounds(run)
            for index in range(0, len(run.deeds), 1 + len(run.deeds) // 30):
                self.assertEqual(found[index], greatest_round(index, run))

    def test_rounds_of_worlds(self):
        greatest = set()
        for seed in range(120):
            tree, inputs = talk(seed, many=random.Random(seed).choice([1, 3, 6]))
            score = Score(tree)
            run = PlainRun(score, inputs)
            many = max(rounds(run), default=0)
            greatest.add(many)
            world = World(score, inputs)
            for _ in range(many):
                self.assertIs(world.has_ended(), False, seed)
                world.calm_round()
            self.assertIs(world.has_ended(), True, seed)
        self.assertGreater(len(greatest), 5)
        world = World(read_score("ends a, b play { }"), {"a": [], "b": []})
        self.assertIs(world.has_ended(), True)

    def test_the_deeds_of_each_round(self):
        run = run_of(TRIANGLE)
        world = World(read_score(TRIANGLE), {"a": [], "b": [], "c": []})
        for number in range(1, 5):
            world.calm_round()
            self.assertEqual(sum(world.cut()), sum(one <= number for one in rounds(run)))

    def test_long_runs(self):
        before = time.monotonic()
        text = "while a: 1 { while a: 1 { while a: 1 { " + "a -> b: k(n) as n b -> a: k(n) as n " * 5 + "} } }"
        run = run_of("ends a, b play { " + text + " }")
        self.assertEqual(max(rounds(run)), 5121)
        self.assertEqual(len(clocks(run)), len(run.deeds))
        for first in range(0, len(run.deeds), 100):
            for second in range(0, len(run.deeds), 100):
                self.assertIs(comes_before(run, first, second), first < second)
        self.assertLess(time.monotonic() - before, 3)

    def test_what_was_returned(self):
        run = run_of(TRIANGLE)
        for function in (clocks, rounds):
            first = function(run)
            expected = copy.deepcopy(first)
            first.reverse()
            first.pop()
            self.assertEqual(function(run), expected)
        run.rows.clear()
        run.variables.clear()
        self.assertEqual(clocks(run)[-1], (4, 2, 3))
        self.assertIs(comes_before(run, 0, 5), True)


if __name__ == "__main__":
    unittest.main()
