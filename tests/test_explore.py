"""Point 31: the cuts that can come about over a carrier that loses nothing and hands over each letter at once."""

import copy
import unittest

from helpers import talk
from onescore.errors import InvalidInputs, TooLarge, Unclear
from onescore.explore import possible_cuts
from onescore.flat import Score, read_score
from onescore.meaning import PlainRun, even_cuts
from onescore.runner import Runner
from onescore.tables import end_tables


def explored(score, inputs):
    """The cuts that can come about, by runners that are copied and let go on in each order."""
    tables = end_tables(score)
    first = {end: Runner(score.ends, end, tables[end], inputs[end]) for end in score.ends}
    found = {tuple(0 for _ in score.ends): first}
    waiting = list(found.values())
    while waiting:
        runners = waiting.pop()
        for end in score.ends:
            others = copy.deepcopy(runners)
            if others[end].step() is None:
                continue
            others[end].flush()
            for item in others[end].outgoing():
                others[item[2]].deliver(item)
            cut = tuple(len(others[name].deeds()) for name in score.ends)
            if cut not in found:
                found[cut] = others
                waiting.append(others)
    return sorted(found)


class Cuts(unittest.TestCase):
    def test_one_message(self):
        score = read_score("ends a, b play { a -> b: k(1) as x }")
        self.assertEqual(possible_cuts(score, {"a": [], "b": []}), [(0, 0), (1, 0), (1, 1)])

    def test_messages_both_ways_and_ends_that_do_nothing(self):
        score = read_score("ends a, c, b play { a -> b: k(1) as x b -> a: l(1) as y a asks z }")
        self.assertEqual(possible_cuts(score, {"a": [], "b": [], "c": [3]}), [
            (0, 0, 0), (1, 0, 0), (1, 0, 1), (1, 0, 2), (2, 0, 2), (3, 0, 2)])
        self.assertEqual(possible_cuts(read_score("ends a, b play { }"), {"a": [], "b": []}), [(0, 0)])

    def test_whiles(self):
        score = read_score("ends a, b play { while a: n < 2 { a -> b: k(n) as x a sets n = n + 1 } a -> b: l(0) as x }")
        inputs = {"a": [], "b": []}
        cuts = possible_cuts(score, inputs)
        self.assertEqual(cuts, explored(score, inputs))
        self.assertEqual((cuts[0], cuts[-1], len(cuts)), ((0, 0), (8, 3), 21))

    def test_random_talks(self):
        looked = 0
        for seed in range(150):
            tree, inputs = talk(seed, 4, 5)
            score = Score(tree)
            if len(PlainRun(score, inputs).deeds) > 22:
                continue
            looked += 1
            kept = copy.deepcopy(inputs)
            cuts = possible_cuts(score, inputs)
            self.assertEqual(cuts, even_cuts(PlainRun(score, inputs)))
            self.assertEqual(inputs, kept)
            if len(cuts) < 150:
                self.assertEqual(cuts, explored(score, inputs))
        self.assertGreater(looked, 60)

    def test_what_is_returned_is_new(self):
        score = read_score("ends a, b play { a -> b: k(1) as x }")
        possible_cuts(score, {"a": [], "b": []}).clear()
        self.assertEqual(len(possible_cuts(score, {"a": [], "b": []})), 3)


class Errors(unittest.TestCase):
    def asks(self, *counts):
        ends = tuple("abcdef"[:len(counts)])
        block = tuple(("ask", end, "x") for end, many in zip(ends, counts) for _ in range(many))
        return Score((ends, (), block)), {end: [] for end in ends}

    def test_3000_cuts_are_enough(self):
        self.assertEqual(len(possible_cuts(*self.asks(14, 9, 19))), 3000)
        with self.assertRaises(TooLarge):
            possible_cuts(*self.asks(14, 9, 20))
        with self.assertRaises(TooLarge):
            possible_cuts(*self.asks(20, 20, 20, 20, 20, 20))

    def test_the_errors_of_world(self):
        many = " ".join(end + " asks x " for end in "ab" * 60)
        unclear = read_score("ends a, b play { if a: 1 { b asks x } else { } " + many + "}")
        with self.assertRaises(InvalidInputs):
            possible_cuts(unclear, {"a": [], "b": [-1]})
        with self.assertRaises(InvalidInputs):
            possible_cuts(unclear, {"a": []})
        with self.assertRaises(Unclear) as caught:
            possible_cuts(unclear, {"a": [], "b": []})
        self.assertEqual(caught.exception.end, "b")

    def test_a_table_of_too_many_states(self):
        text = "if a: 1 { a -> b: x(0) as n } else { a -> b: y(0) as n } "
        score = read_score("ends a, b play { while a: n < 0 { " + text + "} a -> b: x(0) as n " + text * 9 +
                           "a -> b: z(0) as n }")
        self.assertLess(len(even_cuts(PlainRun(score, {"a": [], "b": []}))), 3000)
        with self.assertRaises(TooLarge):
            possible_cuts(score, {"a": [], "b": []})


if __name__ == "__main__":
    unittest.main()
