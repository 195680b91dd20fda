"""Times: they grow along each plain run, and tell the position and the rounds of the whiles around it."""

import unittest

from helpers import Score, plain_way, talk
from onescore.flat import read_score
from onescore.meaning import PlainRun
from onescore.times import Times


def times_of(score, deeds):
    """The times along a plain run, and the position at each one."""
    times = Times(score)
    found = [(times.first, 0)]
    for position, answer in plain_way(score, deeds):
        goal = score.next[position][1 if answer == "no" else 0]
        found.append((times.behind(found[-1][0], goal), goal))
    return times, found


class Along(unittest.TestCase):
    def check(self, score, inputs):
        times, found = times_of(score, PlainRun(score, inputs).deeds)
        for (time, place), (later, _) in zip(found, found[1:]):
            self.assertLess(time, later)
            self.assertEqual(times.place(time), place)
        self.assertEqual(found[-1], ((len(score.statements),), len(score.statements)))
        return [time for time, _ in found]

    def test_one_while(self):
        score = read_score("ends a play { a asks n while a: n { a sets n = n - 1 } a sets m = n }")
        self.assertEqual(self.check(score, {"a": [2]}),
                         [(0,), (1, 0), (1, 0, 2), (1, 1), (1, 1, 2), (1, 2), (3,), (4,)])
        # Eight times yes, and no then.
        self.assertEqual(self.check(score, {"a": [20]})[-4:], [(1, 7, 2), (1, 8), (3,), (4,)])

    def test_whiles_inside_of_each_other(self):
        score = read_score("ends a play { while a: n < 2 { while a: m < 1 { a sets m = m + 1 } while a: 0 { } "
                           "if a: n { a sets m = 1 } else { a sets m = 0 } a sets n = n + 1 } }")
        self.assertEqual(self.check(score, {"a": []}),
                         [(0, 0), (0, 0, 1, 0), (0, 0, 1, 0, 2), (0, 0, 1, 1), (0, 0, 3, 0), (0, 0, 4), (0, 0, 6), (0, 0, 7),
                          (0, 1), (0, 1, 1, 0), (0, 1, 1, 0, 2), (0, 1, 1, 1), (0, 1, 3, 0), (0, 1, 4), (0, 1, 5), (0, 1, 7),
                          (0, 2), (8,)])

    def test_whiles_without_statements_and_at_the_end_of_others(self):
        score = read_score("ends a play { while a: n == 0 { a sets n = 1 while a: 1 { } } }")
        found = self.check(score, {"a": []})
        self.assertEqual(found[:2] + found[-3:], [(0, 0), (0, 0, 1), (0, 0, 2, 8), (0, 1), (3,)])
        self.assertEqual(len(found), 13)
        score = read_score("ends a play { while a: 1 { if a: 1 { while a: 0 { } } else { } } }")
        self.assertEqual(self.check(score, {"a": []})[:5], [(0, 0), (0, 0, 1), (0, 0, 2, 0), (0, 1), (0, 1, 1)])

    def test_drawn_runs(self):
        for seed in range(150):
            tree, inputs = talk(seed, many=9)
            self.check(Score(tree), inputs)

    def test_no_statements(self):
        self.assertEqual(self.check(read_score("ends a, b play { }"), {"a": [], "b": []}), [(0,)])


if __name__ == "__main__":
    unittest.main()
