"""Point 34: watchers, who see only the letters of an end."""

import copy
import random
import unittest

import helpers
from helpers import talk
from onescore.errors import UnknownEnd
from onescore.flat import Score, read_score
from onescore.meaning import PlainRun
from onescore.watch import Watcher
from onescore.world import World


def letter_of(look):
    """What a watcher sees of a look, or None."""
    return look[:3] if look is not None and look[0] in ("send", "get") else None


def closed(score, end, positions):
    """The positions that can be reached without a letter."""
    reached = set(positions)
    while True:
        more = {goal for position in reached for look, goal in helpers.looks_from(score, end, position)
                if letter_of(look) is None}
        if more <= reached:
            return reached
        reached |= more


def see(watcher, letter):
    return getattr(watcher, letter[0])(*letter[1:])


def possible_rows(score, end, longest):
    """All rows of letters that some way of at most so many steps has."""
    found = set()
    for way, _ in helpers.all_ways(score, longest):
        row = ()
        for position, answer in way:
            look = [look for (look, goal), word in zip(helpers.looks_from(score, end, position), ("yes", "no"))
                    if word == (answer or "yes")][0]
            row += (letter_of(look),) if letter_of(look) else ()
        found.add(row)
    return found


class Blames(unittest.TestCase):
    TEXT = ("ends a, b, c play { a -> b: k(1) as x while b: x { b -> a: more(2) as y a -> b: here(y) as x } "
            "b -> a: stop(0) as y a -> c: z(0) as x }")

    def watched(self, *letters, end="a"):
        """The answers of a watcher to these letters."""
        watcher = Watcher(read_score(self.TEXT), end)
        return [see(watcher, letter) for letter in letters]

    K, MORE, HERE, STOP, Z = (("send", "b", "k"), ("get", "b", "more"), ("send", "b", "here"), ("get", "b", "stop"),
                              ("send", "c", "z"))

    def test_possible_rows(self):
        for row in ((), (self.K,), (self.K, self.STOP, self.Z), (self.K, self.MORE, self.HERE, self.STOP, self.Z),
                    (self.K,) + (self.MORE, self.HERE) * 20 + (self.STOP, self.Z)):
            self.assertEqual(self.watched(*row), [True] * len(row))

    def test_a_wrong_label_or_other_end(self):
        for wrong in (("send", "b", "kk"), ("send", "b", "here"), ("send", "c", "k"), ("get", "b", "k"),
                      ("send", "d", "k"), ("send", "a", "k"), ("send", "b", ""), ("get", "a", "k")):
            self.assertEqual(self.watched(wrong), [False])
        for wrong in (("get", "c", "more"), ("send", "b", "more"), ("get", "b", "k"), ("get", "b", "mor")):
            self.assertEqual(self.watched(self.K, wrong), [True, False])

    def test_too_early_too_late_and_too_many(self):
        for row in ((self.K, self.Z), (self.K, self.HERE), (self.MORE,), (self.Z,), (self.K, self.MORE, self.STOP),
                    (self.K, self.MORE, self.MORE), (self.K, self.STOP, self.MORE), (self.K, self.STOP, self.STOP),
                    (self.K, self.STOP, self.Z, self.Z), (self.K, self.K)):
            self.assertEqual(self.watched(*row), [True] * (len(row) - 1) + [False], row)

    def test_nothing_is_possible_behind_a_blame(self):
        watcher = Watcher(read_score(self.TEXT), "a")
        self.assertIs(watcher.send("b", "k"), True)
        self.assertIs(watcher.send("c", "z"), False)
        for letter in (self.MORE, self.STOP, self.Z, self.HERE, self.K):
            self.assertIs(see(watcher, letter), False)
            self.assertEqual(watcher.next_letters(), [])

    def test_next_letters(self):
        watcher = Watcher(read_score(self.TEXT), "a")
        self.assertEqual(watcher.next_letters(), [self.K])
        watcher.send("b", "k")
        self.assertEqual(watcher.next_letters(), [self.MORE, self.STOP])
        watcher.get("b", "more")
        self.assertEqual(watcher.next_letters(), [self.HERE])
        watcher.send("b", "here")
        self.assertEqual(watcher.next_letters(), [self.MORE, self.STOP])
        watcher.get("b", "stop")
        self.assertEqual(watcher.next_letters(), [self.Z])
        watcher.send("c", "z")
        self.assertEqual(watcher.next_letters(), [])
        self.assertIs(watcher.send("c", "z"), False)

    def test_next_letters_are_ascending_and_without_doubles(self):
        watcher = Watcher(read_score("ends a, b, c play { while a: 1 { if a: 1 { a -> c: k(1) as x } else { if a: 1 "
                                     "{ a -> b: z(1) as x } else { if a: 1 { a -> b: k(1) as x } else "
                                     "{ a -> b: z(2) as y } } } } b -> a: k(1) as x }"), "a")
        expected = [("get", "b", "k"), ("send", "b", "k"), ("send", "b", "z"), ("send", "c", "k")]
        for letter in ((), ("send", "b", "z"), ("send", "b", "k")):
            if letter:
                self.assertIs(see(watcher, letter), True)
            self.assertEqual(watcher.next_letters(), expected)
        self.assertIs(watcher.get("b", "k"), True)
        self.assertEqual(watcher.next_letters(), [])

    def test_an_end_without_letters(self):
        watcher = Watcher(read_score("ends a, b, c play { a -> b: k(1) as x while c: 1 { c asks x } }"), "c")
        self.assertEqual(watcher.next_letters(), [])
        self.assertIs(watcher.get("a", "k"), False)

    def test_own_statements_and_letters_of_others_are_not_seen(self):
        watcher = Watcher(read_score("ends a, b, c play { c asks x a -> b: k(1) as x if c: 0 { c sets x = 1 } else "
                                     "{ while c: 1 { b -> a: k(1) as x } } while b: 0 { b asks x } c -> a: k(0) as x }"),
                          "c")
        self.assertEqual(watcher.next_letters(), [("send", "a", "k")])
        self.assertIs(watcher.send("a", "k"), True)

    def test_values_do_not_matter(self):
        watcher = Watcher(read_score("ends a, b play { if a: 0 { a -> b: k(1) as x } else { a -> b: l(1) as x } }"), "b")
        self.assertEqual(watcher.next_letters(), [("get", "a", "k"), ("get", "a", "l")])

    def test_unclear_scores(self):
        watcher = Watcher(read_score("ends a, b play { if a: 1 { b -> a: k(1) as x } else { b -> a: l(1) as x "
                                     "b -> a: k(1) as x } }"), "b")
        self.assertEqual(watcher.next_letters(), [("send", "a", "k"), ("send", "a", "l")])
        self.assertIs(watcher.send("a", "k"), True)
        self.assertEqual(watcher.next_letters(), [])

    def test_unknown_ends(self):
        score = read_score(self.TEXT)
        for end in ("d", "", "A", "more", "ab"):
            with self.assertRaises(UnknownEnd):
                Watcher(score, end)
        for end in "abc":
            Watcher(score, end)


class AllRows(unittest.TestCase):
    def test_scores_with_few_ways(self):
        for seed in range(150):
            score = helpers.random_score(seed, many=5)
            if any(statement[0] == "while" for statement in score.statements):
                continue
            for end in score.ends:
                rows = possible_rows(score, end, len(score.statements))
                letters = sorted({letter for row in rows for letter in row} | {("send", "b", "zz"), ("get", "a", "k")})
                for row in sorted(rows):
                    watcher = Watcher(score, end)
                    for at, letter in enumerate(row):
                        self.assertIs(see(watcher, letter), True)
                    self.assertEqual(watcher.next_letters(), [letter for letter in letters if row + (letter,) in rows])
                    for letter in letters:
                        watcher = Watcher(score, end)
                        answers = [see(watcher, part) for part in row + (letter,)]
                        self.assertIs(answers[-1], row + (letter,) in rows)

    def test_random_letters(self):
        answers = {True: 0, False: 0}
        for seed in range(300):
            score, rng = helpers.random_score(seed), random.Random(seed)
            end = rng.choice(score.ends)
            positions, watcher = closed(score, end, {0}), Watcher(score, end)
            for _ in range(12):
                nexts = {letter_of(look) for position in positions
                         for look, _ in helpers.looks_from(score, end, position)} - {None}
                self.assertEqual(watcher.next_letters(), sorted(nexts))
                other = ("send", rng.choice(score.ends), rng.choice("klm"))
                letter = rng.choice(sorted(nexts) * 4 + [other])
                goals = {goal for position in positions for look, goal in helpers.looks_from(score, end, position)
                         if letter_of(look) == letter}
                positions = closed(score, end, goals)
                answers[bool(goals)] += 1
                self.assertIs(see(watcher, letter), bool(goals))
        self.assertGreater(min(answers.values()), 200)

    def test_rows_of_plain_runs_are_never_blamed(self):
        letters = 0
        for seed in range(300):
            tree, inputs = talk(seed, 5)
            score = Score(tree)
            run = PlainRun(score, inputs)
            for end in score.ends:
                watcher = Watcher(score, end)
                for deed in run.rows[end]:
                    if deed[0] in ("send", "get"):
                        letter = (deed[0],) + deed[2:4]
                        self.assertIn(letter, watcher.next_letters())
                        self.assertIs(see(watcher, letter), True)
                        letters += 1
        self.assertGreater(letters, 1000)

    def test_ends_of_worlds_are_never_blamed(self):
        for seed in range(60):
            tree, inputs = talk(seed, 4)
            score = Score(tree)
            world = World(score, inputs)
            for name, arguments in helpers.random_calls(random.Random(seed), world, score.ends, 40):
                getattr(world, name)(*arguments)
            for end in score.ends:
                watcher = Watcher(score, end)
                for deed in world.deeds(end):
                    if deed[0] in ("send", "get"):
                        self.assertIs(see(watcher, (deed[0],) + deed[2:4]), True)


class NothingIsShared(unittest.TestCase):
    def test_what_is_returned_is_new_and_the_score_stays_as_it_was(self):
        score = read_score(Blames.TEXT)
        kept = copy.deepcopy(vars(score))
        first, second = Watcher(score, "a"), Watcher(score, "a")
        first.send("b", "k")
        first.next_letters().clear()
        self.assertEqual(first.next_letters(), [Blames.MORE, Blames.STOP])
        self.assertEqual(second.next_letters(), [Blames.K])
        self.assertEqual(vars(score), kept)


if __name__ == "__main__":
    unittest.main()
