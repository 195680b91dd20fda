"""Points 28 to 30: worlds, their bags, what they keep, and calm rounds."""

import copy
import random
import time
import unittest

from helpers import TOO_LARGE, SlowRun, SlowWorld, random_calls, talk, told, world_looks
from onescore.errors import InvalidInputs, NoSuchLetter, TooLarge, Unclear, UnknownEnd
from onescore.flat import Score, read_score
from onescore.meaning import PlainRun, is_even
from onescore.tables import end_tables
from onescore.world import World


def world(text, **inputs):
    """The world of a text; ends without inputs have none."""
    score = read_score(text)
    return World(score, {end: inputs.get(end, []) for end in score.ends})


def letter(sender, receiver, number, label, value):
    return ("letter", sender, receiver, number, label, value)


def receipt(sender, receiver, count):
    return ("receipt", sender, receiver, count)


THERE_AND_BACK = ("ends a, b play { a asks n a -> b: k(n) as x a -> b: l(n + 1) as y b sets z = x + y "
                  "b -> a: m(z) as r a asks q }")


class Calls(unittest.TestCase):
    def test_work(self):
        one = world(THERE_AND_BACK, a=[5, 6])
        self.assertEqual(one.work("a", 0), 0)
        self.assertEqual(one.cut(), (0, 0))
        self.assertEqual(one.work("b", 3), 0)
        self.assertEqual(one.work("a", 2), 2)
        self.assertEqual(one.deeds("a"), [("ask", "a", "n", 5), ("send", "a", "b", "k", 5)])
        self.assertEqual(one.work("a", 9), 1)
        self.assertEqual(one.cut(), (3, 0))
        self.assertEqual(one.work("a", 9), 0)
        self.assertEqual(one.variables("a"), {"n": 5})

    def test_post_and_the_order_of_the_bag(self):
        one = world(THERE_AND_BACK, a=[5])
        self.assertEqual(one.bag(), [])
        one.work("a", 2)
        self.assertIsNone(one.post("a"))
        one.work("a", 1)
        self.assertEqual(one.bag(), [letter("a", "b", 0, "k", 5)])
        one.post("a")
        self.assertEqual(one.bag(), [letter("a", "b", 0, "k", 5), letter("a", "b", 0, "k", 5),
                                     letter("a", "b", 1, "l", 6)])
        one.post("b")
        self.assertEqual(len(one.bag()), 3)

    def test_double_and_lose(self):
        one = world(THERE_AND_BACK, a=[5])
        one.work("a", 3)
        one.post("a")
        k, l = one.bag()
        self.assertIsNone(one.double(0))
        self.assertEqual(one.bag(), [k, l, k])
        one.double(1)
        self.assertEqual(one.bag(), [k, l, k, l])
        self.assertIsNone(one.lose(1))
        self.assertEqual(one.bag(), [k, k, l])
        one.lose(0)
        self.assertEqual(one.bag(), [k, l])
        one.lose(1)
        self.assertEqual(one.bag(), [k])
        one.lose(0)
        self.assertEqual(one.bag(), [])
        self.assertEqual(one.work("b", 9), 0)

    def test_hand_over(self):
        one = world(THERE_AND_BACK, a=[5, 7])
        one.work("a", 3)
        one.post("a")
        one.double(1)
        self.assertEqual([item[3] for item in one.bag()], [0, 1, 1])
        self.assertIsNone(one.hand_over(1))
        self.assertEqual([item[3] for item in one.bag()], [0, 1])
        self.assertEqual(one.work("b", 9), 0)
        one.hand_over(0)
        self.assertEqual(one.bag(), [letter("a", "b", 1, "l", 6)])
        self.assertEqual(one.work("b", 9), 4)
        self.assertEqual((one.cut(), one.journal("b")), ((3, 4), [("took", "a", "k", 5), ("took", "a", "l", 6)]))
        self.assertEqual(one.variables("b"), {"x": 5, "y": 6, "z": 11})
        one.post("b")
        self.assertEqual(len(one.bag()), 1)
        self.assertIsNone(one.flush("b"))
        one.post("b")
        self.assertEqual(one.bag()[1:], [letter("b", "a", 0, "m", 11), receipt("b", "a", 2)])
        self.assertEqual(one.unreceipted("a", "b"), 2)
        one.hand_over(2)
        self.assertEqual((one.unreceipted("a", "b"), one.unreceipted("b", "a")), (0, 1))
        self.assertIs(one.has_ended(), False)
        one.hand_over(1)
        self.assertEqual(one.work("a", 9), 2)
        self.assertIs(one.has_ended(), True)
        self.assertEqual(one.variables("a"), {"n": 5, "r": 11, "q": 7})

    def test_falls_and_checkpoints(self):
        one = world(THERE_AND_BACK, a=[5])
        one.work("a", 3)
        one.post("a")
        one.hand_over(0)
        one.hand_over(0)
        one.work("b", 2)
        self.assertEqual(len(one.journal("b")), 2)
        self.assertIsNone(one.fall("b", 1))
        self.assertEqual((one.journal("b"), one.cut()), ([("took", "a", "k", 5)], (3, 1)))
        self.assertIsNone(one.checkpoint("b"))
        self.assertEqual(one.journal("b"), [])
        one.fall("b", 5)
        self.assertEqual(one.cut(), (3, 1))
        one.post("b")
        self.assertEqual(one.bag(), [receipt("b", "a", 1)])
        one.fall("a", 0)
        self.assertEqual(one.cut(), (3, 1))

    def test_a_fall_does_deeds_up_to_the_next_get(self):
        one = world(THERE_AND_BACK, a=[5])
        one.fall("a", 0)
        self.assertEqual(one.cut(), (3, 0))


class CalmRounds(unittest.TestCase):
    def test_what_one_round_does(self):
        one = world(THERE_AND_BACK, a=[5, 7])
        self.assertIsNone(one.calm_round())
        self.assertEqual((one.cut(), one.bag()), ((3, 0), []))
        one.calm_round()
        self.assertEqual((one.cut(), one.bag()), ((3, 4), []))
        self.assertEqual((one.unreceipted("a", "b"), one.unreceipted("b", "a")), (0, 1))
        one.fall("b", 9)
        self.assertEqual(len(one.journal("b")), 2)
        one.calm_round()
        self.assertEqual((one.cut(), one.has_ended()), ((5, 4), True))
        one.calm_round()
        self.assertEqual((one.unreceipted("a", "b"), one.unreceipted("b", "a")), (0, 0))

    def test_an_end_works_before_what_others_post_in_the_round_is_handed_over(self):
        one = world("ends a, b, c play { c -> b: k(1) as x b -> a: k(2) as x }")
        for cut in ((0, 0, 1), (0, 2, 1), (1, 2, 1)):
            self.assertIs(one.has_ended(), False)
            one.calm_round()
            self.assertEqual(one.cut(), cut)
        one = world("ends c, b, a play { c -> b: k(1) as x b -> a: k(2) as x }")
        for cut in ((1, 0, 0), (1, 2, 0), (1, 2, 1)):
            one.calm_round()
            self.assertEqual(one.cut(), cut)

    def test_what_is_in_the_bag_is_handed_over_too(self):
        one = world("ends a, b play { a -> b: k(1) as x b -> a: l(2) as y a -> b: m(3) as z }")
        one.work("a", 1)
        one.post("a")
        one.calm_round()
        self.assertEqual((one.cut(), one.bag()), ((1, 0), []))
        one.fall("b", 0)
        one.calm_round()
        one.work("b", 1)
        one.flush("b")
        one.post("b")
        self.assertEqual(len(one.bag()), 1)
        one.calm_round()
        self.assertEqual((one.cut(), one.bag(), one.unreceipted("a", "b")), ((1, 2), [], 0))

    def test_nothing_to_do(self):
        one = world("ends a, b play { }")
        self.assertIs(one.has_ended(), True)
        one.calm_round()
        self.assertEqual(world_looks(one, "ab"), ([], True, (0, 0), [([], {}, [])] * 2, [0, 0]))

    def test_many_rounds_of_a_long_talk(self):
        start = time.perf_counter()
        one = world("ends a, b play { while a: 1 { while a: 1 { while a: 1 { a -> b: k(n) as x b -> a: l(x + 1) as n "
                    "} a -> b: m(0) as x } a -> b: n(0) as x } a -> b: o(0) as x }")
        rounds = 0
        while not one.has_ended():
            one.calm_round()
            rounds += 1
        self.assertEqual(one.variables("a"), {"n": 512})
        self.assertEqual(rounds, 1026)
        self.assertLess(time.perf_counter() - start, 10)


class Kept(unittest.TestCase):
    def assert_kept(self, one, run, ends):
        """That the deeds done are the beginnings of rows, and an even cut."""
        cut = one.cut()
        self.assertIsInstance(cut, tuple)
        for end, many in zip(ends, cut):
            deeds = one.deeds(end)
            self.assertEqual(len(deeds), many)
            self.assertEqual(tuple(deeds), run.rows[end][:many])
        self.assertIs(is_even(run, cut), True)

    def assert_ends(self, one, tree, inputs):
        """That calm rounds end a world soon, with the rows and the variables of the plain run."""
        slow = SlowRun(tree, inputs)
        rounds = 0
        while not one.has_ended():
            one.calm_round()
            rounds += 1
            self.assertLessEqual(rounds, len(slow.deeds) + 1)
        for end in tree[0]:
            self.assertEqual(tuple(one.deeds(end)), slow.rows[end])
            self.assertEqual(one.variables(end), slow.variables[end])

    def cases(self, seeds, most_ends, most_deeds):
        for seed in seeds:
            tree, inputs = talk(seed, most_ends)
            score = Score(tree)
            run = PlainRun(score, inputs)
            if len(run.deeds) <= most_deeds:
                yield random.Random(seed), tree, inputs, score, run

    def test_random_calls_do_what_a_slow_world_does(self):
        ended = 0
        for rng, tree, inputs, score, run in self.cases(range(160), 4, 60):
            one, slow = World(score, inputs), SlowWorld(score.ends, end_tables(score), inputs)
            for name, arguments in random_calls(rng, one, score.ends, 40):
                self.assertEqual(getattr(one, name)(*arguments), getattr(slow, name)(*arguments), (name, arguments))
                self.assertEqual(world_looks(one, score.ends), world_looks(slow, score.ends))
                self.assert_kept(one, run, score.ends)
            ended += one.has_ended()
            self.assert_ends(one, tree, inputs)
        self.assertGreater(ended, 5)

    def test_many_calls_with_up_to_six_ends(self):
        kinds = {}
        for rng, tree, inputs, score, run in self.cases(range(1000, 1400), 6, 400):
            one = World(score, inputs)
            kinds[len(score.ends)] = kinds.get(len(score.ends), 0) + 1
            for name, arguments in random_calls(rng, one, score.ends, 60):
                before = sum(one.cut())
                found = getattr(one, name)(*arguments)
                if name == "work":
                    self.assertEqual(found, sum(one.cut()) - before)
                    self.assertLessEqual(found, arguments[1])
                else:
                    self.assertIsNone(found)
                self.assert_kept(one, run, score.ends)
            self.assert_ends(one, tree, inputs)
        self.assertEqual(sorted(kinds), [2, 3, 4, 5, 6])
        self.assertGreater(min(kinds.values()), 20)

    def test_from_the_beginning(self):
        for rng, tree, inputs, score, run in self.cases(range(2000, 2200), 6, 2000):
            self.assert_ends(World(score, inputs), tree, inputs)

    def test_an_end_that_waits_has_not_got_its_letter(self):
        for rng, tree, inputs, score, run in self.cases(range(3000, 3100), 4, 200):
            one = World(score, inputs)
            for name, arguments in random_calls(rng, one, score.ends, 40):
                getattr(one, name)(*arguments)
            for at, end in enumerate(score.ends):
                one.work(end, 1000)
                row = run.rows[end]
                if one.cut()[at] < len(row):
                    self.assertEqual(row[one.cut()[at]][0], "get")


class Errors(unittest.TestCase):
    def assert_refused(self, one, error, name, *arguments):
        ends = list(one.runners)
        kept = copy.deepcopy(world_looks(one, ends))
        with self.assertRaises(error):
            getattr(one, name)(*arguments)
        self.assertEqual(world_looks(one, ends), kept)

    def some_world(self):
        one = world(THERE_AND_BACK, a=[5])
        one.work("a", 9)
        one.post("a")
        one.hand_over(0)
        one.work("b", 1)
        return one

    def test_unknown_ends(self):
        one = self.some_world()
        for end in ("c", "", "A", "ab"):
            for name in ("flush", "checkpoint", "post", "deeds", "variables", "journal"):
                self.assert_refused(one, UnknownEnd, name, end)
            for many in (0, 1):
                self.assert_refused(one, UnknownEnd, "work", end, many)
                self.assert_refused(one, UnknownEnd, "fall", end, many)
            self.assert_refused(one, UnknownEnd, "unreceipted", end, "a")
            self.assert_refused(one, UnknownEnd, "unreceipted", "a", end)
            self.assert_refused(one, UnknownEnd, "unreceipted", end, end)
        self.assert_refused(one, UnknownEnd, "unreceipted", "a", "a")

    def test_no_such_letter(self):
        one = self.some_world()
        self.assertEqual(len(one.bag()), 1)
        for name in ("hand_over", "lose", "double"):
            for index in (-1, -2, 1, 2, 100):
                self.assert_refused(one, NoSuchLetter, name, index)
        one.lose(0)
        for name in ("hand_over", "lose", "double"):
            for index in (-1, 0, 1):
                self.assert_refused(one, NoSuchLetter, name, index)

    def test_the_errors_of_making_a_world_in_their_order(self):
        unclear = "ends a, b play { if a: 1 { b asks x } else { } }"
        both = TOO_LARGE.replace("ends a, b play {", "ends a, b, c play { if a: 1 { c asks x } else { }")
        with self.assertRaises(TooLarge):
            World(read_score(TOO_LARGE), {"a": [], "b": []})
        with self.assertRaises(Unclear) as caught:
            World(read_score(both), {"a": [], "b": [], "c": []})
        self.assertEqual(caught.exception.end, "c")
        for text in (unclear, TOO_LARGE, THERE_AND_BACK):
            for inputs in ({"a": []}, {"a": [], "b": [], "c": []}, {"a": [-1], "b": []}, {"a": [], "b": [4294967296]}):
                kept = copy.deepcopy(inputs)
                with self.assertRaises(InvalidInputs):
                    World(read_score(text), inputs)
                self.assertEqual(inputs, kept)
        with self.assertRaises(Unclear) as caught:
            World(read_score(unclear), {"a": [0], "b": [4294967295]})
        self.assertEqual(caught.exception.end, "b")


class NothingIsShared(unittest.TestCase):
    def test_what_is_passed_and_returned_is_not_kept(self):
        inputs = {"a": [5, 6], "b": []}
        score = read_score(THERE_AND_BACK)
        one = World(score, inputs)
        inputs["a"].clear()
        inputs.clear()
        one.work("a", 9)
        one.post("a")
        one.hand_over(0)
        one.work("b", 9)
        kept = copy.deepcopy(world_looks(one, "ab"))
        self.assertEqual(kept[3][0][1], {"n": 5})
        found = [one.bag()] + [getattr(one, name)(end) for name in ("deeds", "variables", "journal") for end in "ab"]
        for part in found:
            part.clear()
        self.assertEqual(world_looks(one, "ab"), kept)
        one.fall("b", 0)
        one.fall("a", 0)
        self.assertEqual(world_looks(one, "ab"), kept)

    def test_two_worlds_share_nothing(self):
        tree = (("a", "b"), (), told((("while", "a", ("number", 1), (("ask", "b", "x"),)),), ("a", "b")))
        score = Score(tree)
        inputs = {"a": [], "b": [1, 2]}
        first, second = World(score, inputs), World(score, inputs)
        kept = copy.deepcopy(world_looks(second, "ab"))
        for _ in range(5):
            first.calm_round()
            first.checkpoint("a")
        self.assertEqual(world_looks(second, "ab"), kept)
        second.calm_round()
        self.assertNotEqual(second.cut(), first.cut())


if __name__ == "__main__":
    unittest.main()
