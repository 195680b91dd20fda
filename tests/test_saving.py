"""Point 45: worlds that are saved and opened, and lasting cuts."""

import copy
import random
import unittest

from helpers import MOST, TOO_LARGE, random_calls, talk, world_looks
from onescore.errors import InvalidInputs, TooLarge, Unclear
from onescore.flat import Score, read_score
from onescore.meaning import PlainRun, is_even
from onescore.saving import lasting_cut, open_world, save_world
from onescore.world import World

THERE_AND_BACK = ("ends a, b play { a asks n a -> b: k(n) as x a -> b: l(n + 1) as y b sets z = x + y "
                  "b -> a: m(z) as r a asks q }")
ROUNDS = ("ends a, b play { while a: 1 { a asks n a -> b: more(n) as k b asks m b -> a: back(m + k) as n } "
          "a -> b: stop(n) as k }")


def wrong_parts(value):
    """What is in a value, at any depth, and is no tuple, string or integer."""
    if isinstance(value, tuple):
        return [part for one in value for part in wrong_parts(one)]
    return [] if isinstance(value, str) or (isinstance(value, int) and not isinstance(value, bool)) else [value]


def begun(text, **inputs):
    score = read_score(text)
    given = {end: inputs.get(end, []) for end in score.ends}
    return score, given, World(score, given)


def all_fall(world, ends):
    """The cut that is left when all ends fall and lose all that does not last."""
    for end in ends:
        world.fall(end, 10 ** 6)
    return world.cut()


class Saved(unittest.TestCase):
    def check(self, score, inputs, world):
        before = world_looks(world, score.ends)
        saved = save_world(world)
        self.assertIsInstance(saved, tuple)
        self.assertEqual(wrong_parts(saved), [])
        self.assertEqual(save_world(world), saved)
        other = open_world(score, inputs, saved)
        self.assertIsInstance(other, World)
        self.assertEqual(world_looks(other, score.ends), before)
        self.assertEqual(world_looks(world, score.ends), before)
        self.assertEqual(save_world(other), saved)
        return other

    def test_a_new_world(self):
        score, inputs, world = begun(THERE_AND_BACK, a=[5, 6])
        other = self.check(score, inputs, world)
        for _ in range(3):
            other.calm_round()
        self.assertEqual((other.has_ended(), world.cut()), (True, (0, 0)))
        self.assertEqual(other.variables("a"), {"n": 5, "r": 11, "q": 6})

    def test_a_world_without_letters_and_one_end(self):
        for text in ("ends a play { }", "ends a play { a asks n a asks n }"):
            score, inputs, world = begun(text, a=[7])
            world.work("a", 1)
            self.check(score, inputs, world)

    def test_letters_in_bag_and_tray_and_entries(self):
        score, inputs, world = begun(THERE_AND_BACK, a=[5, 6])
        world.work("a", 3)
        world.post("a")
        world.double(0)
        world.hand_over(1)
        one = self.check(score, inputs, world)
        # The second letter waits in the tray, for the first one, which is in the bag twice.
        self.assertEqual([item[3] for item in one.bag()], [0, 0])
        one.hand_over(1)
        self.assertEqual(one.work("b", 9), 4)
        self.assertEqual((one.journal("b"), world.journal("b")), ([("took", "a", "k", 5), ("took", "a", "l", 6)], []))
        one.flush("b")
        two = self.check(score, inputs, one)
        two.fall("b", 9)
        one.post("b")
        self.assertEqual((two.cut(), one.cut(), world.cut()), ((3, 4), (3, 4), (3, 0)))
        self.assertEqual(len(two.bag()), 1)
        two.post("b")
        self.assertEqual(two.bag()[1:], [("letter", "b", "a", 0, "m", 11), ("receipt", "b", "a", 2)])

    def test_entries_that_last_and_others(self):
        score, inputs, world = begun(THERE_AND_BACK, a=[5, 6])
        world.work("a", 3)
        world.post("a")
        world.hand_over(0)
        world.hand_over(0)
        world.work("b", 1)
        world.flush("b")
        world.work("b", 3)
        other = self.check(score, inputs, world)
        self.assertEqual(lasting_cut(other), (3, 1))
        other.fall("b", 9)
        self.assertEqual((other.journal("b"), other.cut()), ([("took", "a", "k", 5)], (3, 1)))
        self.assertEqual(world.cut(), (3, 4))
        world.fall("b", 1)
        self.assertEqual(world.cut(), (3, 1))

    def test_checkpoints(self):
        score, inputs, world = begun(ROUNDS, a=[1, 2, 3], b=[4, 5, 6])
        for _ in range(5):
            world.calm_round()
        world.checkpoint("a")
        world.checkpoint("b")
        world.calm_round()
        other = self.check(score, inputs, world)
        for end in "ab":
            self.assertEqual(other.journal(end), world.journal(end))
            other.fall(end, 99)
            world.fall(end, 99)
            self.assertEqual(world_looks(other, "ab"), world_looks(world, "ab"))
        self.assertEqual(save_world(other), save_world(world))
        while not other.has_ended():
            other.calm_round()
        run = PlainRun(score, inputs)
        self.assertEqual({end: tuple(other.deeds(end)) for end in "ab"}, run.rows)
        self.assertEqual({end: other.variables(end) for end in "ab"}, run.variables)

    def test_inputs_rounds_and_receipts(self):
        score, inputs, world = begun(ROUNDS, a=[1, 2, 3], b=[4, 5, 6])
        run = PlainRun(score, inputs)
        while not world.has_ended():
            world.calm_round()
            other = self.check(score, inputs, world)
            self.assertEqual((other.unreceipted("a", "b"), other.unreceipted("b", "a")),
                             (world.unreceipted("a", "b"), world.unreceipted("b", "a")))
            # Each opened world plays to the end, with what is left of inputs and rounds.
            while not other.has_ended():
                other.calm_round()
            self.assertEqual({end: tuple(other.deeds(end)) for end in "ab"}, run.rows)
            self.assertEqual({end: other.variables(end) for end in "ab"}, run.variables)
        self.check(score, inputs, world)

    def test_old_receipts_stay_old(self):
        score, inputs, world = begun("ends a, b play { a -> b: k(1) as x a -> b: k(2) as x a -> b: k(3) as x }")
        world.work("a", 2)
        world.post("a")
        world.hand_over(0)
        world.work("b", 9)
        world.flush("b")
        world.hand_over(0)
        world.work("b", 9)
        world.post("b")
        world.flush("b")
        world.post("b")
        world.hand_over(1)
        self.assertEqual((world.bag(), world.unreceipted("a", "b")), ([("receipt", "b", "a", 1)], 0))
        other = self.check(score, inputs, world)
        for one in (world, other):
            one.hand_over(0)
            one.work("a", 1)
            self.assertEqual(one.unreceipted("a", "b"), 1)

    def test_random_calls(self):
        for seed in range(80):
            rng = random.Random(seed)
            tree, inputs = talk(seed)
            score = Score(tree)
            world, names = World(score, inputs), []
            for _ in range(3):
                for name, arguments in random_calls(rng, world, score.ends, 25):
                    getattr(world, name)(*arguments)
                    names.append(name)
                other = self.check(score, inputs, world)
                before = world_looks(world, score.ends)
                saved = save_world(world)
                # What is done to the one does not show in the other, and the same calls do the same to both.
                for name, arguments in random_calls(random.Random(seed), other, score.ends, 25):
                    getattr(other, name)(*arguments)
                self.assertEqual(world_looks(world, score.ends), before)
                self.assertEqual(save_world(world), saved)
                for name, arguments in random_calls(random.Random(seed), world, score.ends, 25):
                    getattr(world, name)(*arguments)
                self.assertEqual(world_looks(world, score.ends), world_looks(other, score.ends))
                self.assertEqual(save_world(world), save_world(other))
                world = open_world(score, inputs, saved)
            for _ in range(len(PlainRun(score, inputs).deeds) + 1):
                world.calm_round()
            self.assertEqual({end: tuple(world.deeds(end)) for end in score.ends}, PlainRun(score, inputs).rows)

    def test_opened_twice(self):
        score, inputs, world = begun(THERE_AND_BACK, a=[5, 6])
        world.work("a", 3)
        world.post("a")
        saved = save_world(world)
        first, second = open_world(score, inputs, saved), open_world(score, inputs, saved)
        first.hand_over(0)
        first.work("b", 9)
        self.assertEqual((second.cut(), len(second.bag())), ((3, 0), 2))
        self.assertEqual(save_world(second), saved)

    def test_what_was_given(self):
        score, inputs, world = begun(ROUNDS, a=[1, 2, 3], b=[4, 5, 6])
        world.calm_round()
        saved = save_world(world)
        kept = copy.deepcopy(inputs)
        other = open_world(score, inputs, saved)
        self.assertEqual(inputs, kept)
        inputs["a"].clear()
        inputs.clear()
        for one in (world, other):
            while not one.has_ended():
                one.calm_round()
            one.checkpoint("a")
            one.fall("b", 9)
        self.assertEqual(world_looks(other, "ab"), world_looks(world, "ab"))
        self.assertEqual({end: tuple(other.deeds(end)) for end in "ab"}, PlainRun(score, kept).rows)

    def test_errors(self):
        score, inputs, world = begun(THERE_AND_BACK, a=[5])
        saved = save_world(world)
        unclear = read_score("ends a, b play { a asks n if a: n { b asks x } else { a asks n } }")
        for wrong in ({}, {"a": []}, {"a": [], "b": [], "c": []}, {"a": [-1], "b": []}, {"a": [], "b": [MOST + 1]}):
            for given in (score, unclear, read_score(TOO_LARGE)):
                with self.assertRaises(InvalidInputs):
                    open_world(given, wrong, saved)
        with self.assertRaises(Unclear):
            open_world(unclear, {"a": [], "b": []}, saved)
        with self.assertRaises(TooLarge):
            open_world(read_score(TOO_LARGE), {"a": [], "b": []}, saved)


class LastingCuts(unittest.TestCase):
    def test_deeds_up_to_the_next_get(self):
        _, _, world = begun(THERE_AND_BACK, a=[5, 6])
        self.assertEqual((lasting_cut(world), world.cut()), ((3, 0), (0, 0)))
        world.work("a", 1)
        self.assertEqual((lasting_cut(world), world.cut()), ((3, 0), (1, 0)))
        world.work("a", 9)
        world.post("a")
        world.hand_over(0)
        world.hand_over(0)
        world.work("b", 2)
        self.assertEqual((lasting_cut(world), world.cut()), ((3, 0), (3, 2)))
        world.flush("b")
        self.assertEqual((lasting_cut(world), world.cut()), ((3, 4), (3, 2)))
        world.work("b", 9)
        self.assertEqual(lasting_cut(world), (3, 4))
        world.post("b")
        world.hand_over(0)
        world.work("a", 9)
        self.assertEqual((lasting_cut(world), world.cut()), ((3, 4), (5, 4)))
        world.checkpoint("a")
        self.assertEqual(lasting_cut(world), (5, 4))

    def test_against_falls(self):
        cuts = set()
        for seed in range(120):
            rng = random.Random(seed)
            tree, inputs = talk(seed)
            score = Score(tree)
            run = PlainRun(score, inputs)
            world = World(score, inputs)
            for name, arguments in random_calls(rng, world, score.ends, 60):
                getattr(world, name)(*arguments)
                if rng.random() < 0.2:
                    saved = save_world(world)
                    cut = lasting_cut(world)
                    self.assertIsInstance(cut, tuple)
                    self.assertEqual(save_world(world), saved)
                    self.assertEqual(cut, all_fall(open_world(score, inputs, saved), score.ends))
                    self.assertIs(is_even(run, cut), True)
                    cuts.add((seed, cut))
        self.assertGreater(len(cuts), 200)

    def test_opened_worlds(self):
        score, inputs, world = begun(ROUNDS, a=[1, 2, 3], b=[4, 5, 6])
        for _ in range(4):
            world.calm_round()
        world.work("a", 9)
        other = open_world(score, inputs, save_world(world))
        self.assertEqual(lasting_cut(other), lasting_cut(world))
        self.assertNotEqual(lasting_cut(world), world.cut())


if __name__ == "__main__":
    unittest.main()
