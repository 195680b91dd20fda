"""Points 39 and 40: halls, houses, plays, and putting away."""

import copy
import random
import unittest

from helpers import MOST, TOO_LARGE, SlowRunner, steps, talk
from onescore.errors import InvalidInputs, NoSuchLetter, NoSuchPlay, StillPlaying, TooLarge, Unclear, UnknownEnd
from onescore.flat import Score, read_score
from onescore.hall import Hall
from onescore.meaning import PlainRun
from onescore.tables import end_tables

THERE_AND_BACK = ("ends a, b play { a asks n a -> b: k(n) as x a -> b: l(n + 1) as y b sets z = x + y "
                  "b -> a: m(z) as r a asks q }")
TRIANGLE = "ends c, a, b play { a -> b: k(1) as x b -> c: k(x + 1) as x c -> a: k(x + 1) as x }"
UNCLEAR = "ends a, b play { a asks n if a: n { b asks x } else { a asks n } }"


def letter(sender, receiver, number, label, value):
    return ("letter", sender, receiver, number, label, value)


def receipt(sender, receiver, count):
    return ("receipt", sender, receiver, count)


def begun(hall, text, homes, **inputs):
    """Begins a play of a text in the houses that are given in the order of its ends."""
    score = read_score(text)
    return hall.begin(score, {end: inputs.get(end, []) for end in score.ends}, dict(zip(score.ends, homes.split())))


class SlowHall:
    """A hall of slow runners."""

    def __init__(self, houses):
        self.houses, self.begun, self.items, self.rows = houses, 0, [], {}

    def begin(self, score, inputs, homes):
        tables = end_tables(score)
        self.rows[self.begun] = [(end, homes[end], SlowRunner(score.ends, end, tables[end], inputs[end]))
                                 for end in score.ends]
        self.begun += 1
        return self.begun - 1

    def inside(self, house):
        return [(play, runner) for play in sorted(self.rows) for _, home, runner in self.rows[play] if home == house]

    def runner(self, play, end):
        return [runner for name, _, runner in self.rows[play] if name == end][0]

    def work(self, play, end, count):
        return sum(1 for _ in range(count) if self.runner(play, end).step() is not None)

    def tidy(self, house):
        for play, runner in self.inside(house):
            runner.flush()
            self.items = self.items + [(play, item) for item in runner.outgoing()]

    def fall(self, house):
        for _, runner in self.inside(house):
            runner.fall(len(runner.took))

    def hand_over(self, index):
        play, item = self.items[index]
        self.lose(index)
        if play in self.rows:
            self.runner(play, item[2]).deliver(item)

    def lose(self, index):
        self.items = self.items[:index] + self.items[index + 1:]

    def double(self, index):
        self.items = self.items + [self.items[index]]

    def calm_round(self):
        for house in self.houses:
            for _, runner in self.inside(house):
                steps(runner)
            self.tidy(house)
        for _ in range(len(self.items)):
            self.hand_over(0)

    def bag(self):
        return self.items

    def plays(self):
        return sorted(self.rows)

    def has_ended(self, play):
        return all(runner.has_ended() for _, _, runner in self.rows[play])

    def cut(self, play):
        return tuple(len(runner.deeds()) for _, _, runner in self.rows[play])

    def deeds(self, play, end):
        return self.runner(play, end).deeds()

    def variables(self, play, end):
        return self.runner(play, end).variables()

    def put_away(self, play):
        if not self.has_ended(play):
            raise StillPlaying("still playing")
        del self.rows[play]


def looks(hall, ends):
    """All that can be seen of a hall; ends has the ends of each play."""
    return (hall.bag(), hall.plays(), [
        (hall.has_ended(play), hall.cut(play), [(hall.deeds(play, end), hall.variables(play, end)) for end in ends[play]])
        for play in hall.plays()])


class Calls(unittest.TestCase):
    def test_an_empty_hall(self):
        hall = Hall(("x", "y"))
        self.assertEqual((hall.plays(), hall.bag()), ([], []))
        self.assertIsNone(hall.calm_round())
        self.assertIsNone(hall.tidy("x"))
        self.assertIsNone(hall.fall("y"))
        self.assertEqual((hall.plays(), hall.bag()), ([], []))

    def test_begin_and_work(self):
        hall = Hall(("x", "y"))
        self.assertEqual(begun(hall, THERE_AND_BACK, "x y", a=[5]), 0)
        self.assertEqual(begun(hall, THERE_AND_BACK, "x y", a=[7]), 1)
        self.assertEqual(begun(hall, TRIANGLE, "y y y"), 2)
        self.assertEqual(hall.plays(), [0, 1, 2])
        self.assertEqual(hall.work(1, "a", 2), 2)
        self.assertEqual((hall.cut(0), hall.cut(1), hall.cut(2)), ((0, 0), (2, 0), (0, 0, 0)))
        self.assertEqual(hall.deeds(1, "a"), [("ask", "a", "n", 7), ("send", "a", "b", "k", 7)])
        self.assertEqual(hall.variables(1, "a"), {"n": 7})
        self.assertEqual(hall.work(1, "a", 0), 0)
        self.assertEqual(hall.work(1, "a", 9), 1)
        self.assertEqual(hall.work(1, "b", 9), 0)
        self.assertEqual(hall.work(2, "a", 9), 1)
        self.assertEqual(hall.cut(2), (0, 1, 0))
        self.assertIs(hall.has_ended(1), False)

    def test_the_order_of_tidy(self):
        hall = Hall(("x", "y"))
        begun(hall, TRIANGLE, "x x x")
        begun(hall, "ends b, a play { a -> b: k(1) as n b -> a: k(2) as n a -> b: l(3) as n }", "x y")
        begun(hall, THERE_AND_BACK, "x x", a=[5])
        for play, end in ((2, "a"), (1, "a"), (0, "a")):
            hall.work(play, end, 9)
        self.assertEqual(hall.bag(), [])
        self.assertIsNone(hall.tidy("x"))
        bag = [(0, letter("a", "b", 0, "k", 1)), (2, letter("a", "b", 0, "k", 5)), (2, letter("a", "b", 1, "l", 6))]
        self.assertEqual(hall.bag(), bag)
        hall.tidy("y")
        self.assertEqual(hall.bag(), bag + [(1, letter("a", "b", 0, "k", 1))])
        hall.hand_over(0)
        hall.hand_over(2)
        self.assertEqual((hall.work(0, "b", 9), hall.work(1, "b", 9)), (2, 2))
        hall.tidy("x")
        self.assertEqual(hall.bag()[2:], [
            (0, letter("a", "b", 0, "k", 1)), (0, letter("b", "c", 0, "k", 2)), (0, receipt("b", "a", 1)),
            (1, letter("b", "a", 0, "k", 2)), (1, receipt("b", "a", 1)),
            (2, letter("a", "b", 0, "k", 5)), (2, letter("a", "b", 1, "l", 6))])

    def test_the_order_of_calm_rounds(self):
        hall = Hall(("y", "x"))
        begun(hall, TRIANGLE, "x y x")
        begun(hall, "ends b, a play { a -> b: k(1) as n b -> a: k(2) as n }", "y x")
        hall.calm_round()
        self.assertEqual((hall.cut(0), hall.cut(1), hall.bag()), ((0, 1, 0), (0, 1), []))
        hall.calm_round()
        self.assertEqual((hall.cut(0), hall.cut(1), hall.bag()), ((0, 1, 2), (2, 1), []))
        hall.calm_round()
        self.assertEqual((hall.cut(0), hall.cut(1)), ((2, 1, 2), (2, 2)))
        hall.calm_round()
        self.assertEqual((hall.has_ended(0), hall.has_ended(1)), (True, True))
        # What was put into the bag before is handed over first, and a letter comes to an end in the same house only then.
        hall = Hall(("x",))
        begun(hall, THERE_AND_BACK, "x x", a=[5])
        hall.work(0, "a", 2)
        hall.tidy("x")
        hall.double(0)
        hall.calm_round()
        self.assertEqual((hall.cut(0), hall.bag()), ((3, 0), []))
        self.assertEqual(hall.work(0, "b", 9), 4)

    def test_hand_over_lose_and_double(self):
        hall = Hall(("x", "y"))
        begun(hall, THERE_AND_BACK, "x y", a=[5])
        begun(hall, THERE_AND_BACK, "x y", a=[7])
        hall.work(0, "a", 3)
        hall.work(1, "a", 3)
        hall.tidy("x")
        first, second, third, fourth = hall.bag()
        self.assertEqual((first[0], third), (0, (1, letter("a", "b", 0, "k", 7))))
        self.assertIsNone(hall.double(2))
        self.assertEqual(hall.bag(), [first, second, third, fourth, third])
        self.assertIsNone(hall.lose(0))
        self.assertEqual(hall.bag(), [second, third, fourth, third])
        self.assertIsNone(hall.hand_over(1))
        self.assertEqual(hall.bag(), [second, fourth, third])
        self.assertEqual((hall.work(0, "b", 9), hall.work(1, "b", 9)), (0, 1))
        self.assertEqual(hall.variables(1, "b"), {"x": 7})
        hall.hand_over(2)
        self.assertEqual(hall.work(1, "b", 9), 0)

    def test_letters_reach_no_other_play(self):
        hall = Hall(("x",))
        for value in (3, 4):
            begun(hall, THERE_AND_BACK, "x x", a=[value])
        hall.work(0, "a", 9)
        hall.tidy("x")
        self.assertEqual([play for play, _ in hall.bag()], [0, 0])
        hall.hand_over(0)
        hall.hand_over(0)
        self.assertEqual((hall.work(1, "b", 9), hall.work(0, "b", 9)), (0, 4))
        hall.work(1, "a", 9)
        hall.tidy("x")
        while hall.bag():
            hall.hand_over(len(hall.bag()) - 1)
        self.assertEqual((hall.work(1, "b", 9), hall.work(0, "a", 9)), (4, 2))
        self.assertEqual((hall.variables(0, "b")["z"], hall.variables(1, "b")["z"]), (7, 9))
        self.assertEqual((hall.has_ended(0), hall.has_ended(1)), (True, False))

    def test_falls(self):
        hall = Hall(("x", "y"))
        for value in (3, 4):
            begun(hall, THERE_AND_BACK, "x y", a=[value])
        begun(hall, THERE_AND_BACK, "y x", a=[9])
        for play in (0, 1, 2):
            hall.work(play, "a", 3)
        hall.tidy("x")
        hall.tidy("y")
        while hall.bag():
            hall.hand_over(0)
        self.assertEqual([hall.work(play, "b", 2) for play in (0, 1, 2)], [2, 2, 2])
        hall.tidy("y")
        self.assertEqual((hall.work(0, "b", 2), hall.work(1, "b", 2)), (2, 2))
        self.assertIsNone(hall.fall("x"))
        # In house x nothing of the journal lasted: the end of play 2 there begins again.
        self.assertEqual([hall.cut(play) for play in (0, 1, 2)], [(3, 4), (3, 4), (3, 0)])
        hall.fall("y")
        self.assertEqual([hall.cut(play) for play in (0, 1, 2)], [(3, 4), (3, 4), (3, 0)])
        for _ in range(4):
            hall.calm_round()
        self.assertEqual([hall.has_ended(play) for play in (0, 1, 2)], [True] * 3)
        self.assertEqual([hall.variables(play, "a")["r"] for play in (0, 1, 2)], [7, 9, 19])

    def test_a_fall_loses_what_does_not_last_in_all_plays(self):
        hall = Hall(("x", "y"))
        for value in (3, 4):
            begun(hall, THERE_AND_BACK, "x y", a=[value])
            hall.work(value - 3, "a", 3)
        hall.tidy("x")
        while hall.bag():
            hall.hand_over(0)
        hall.work(0, "b", 1)
        hall.tidy("y")
        hall.work(0, "b", 1)
        hall.work(1, "b", 2)
        self.assertEqual((hall.cut(0), hall.cut(1)), ((3, 2), (3, 2)))
        hall.fall("y")
        self.assertEqual((hall.cut(0), hall.cut(1)), ((3, 1), (3, 0)))


class PuttingAway(unittest.TestCase):
    def test_plays_that_have_ended(self):
        hall = Hall(("x",))
        begun(hall, THERE_AND_BACK, "x x", a=[5])
        begun(hall, TRIANGLE, "x x x")
        self.assertEqual(begun(hall, "ends a play { }", "x"), 2)
        self.assertIs(hall.has_ended(2), True)
        with self.assertRaises(StillPlaying):
            hall.put_away(0)
        self.assertEqual(hall.plays(), [0, 1, 2])
        self.assertIsNone(hall.put_away(2))
        self.assertEqual(hall.plays(), [0, 1])
        for _ in range(3):
            hall.calm_round()
        self.assertEqual((hall.has_ended(0), hall.has_ended(1)), (True, False))
        with self.assertRaises(StillPlaying):
            hall.put_away(1)
        hall.put_away(0)
        self.assertEqual(hall.plays(), [1])
        self.assertEqual(begun(hall, "ends a play { }", "x"), 3)
        self.assertEqual(hall.plays(), [1, 3])
        hall.put_away(3)
        self.assertEqual(begun(hall, THERE_AND_BACK, "x x", a=[6]), 4)
        self.assertEqual(hall.work(4, "a", 9), 3)
        hall.calm_round()
        hall.put_away(1)
        self.assertEqual(hall.plays(), [4])

    def test_letters_of_plays_that_were_put_away(self):
        hall = Hall(("x", "y"))
        begun(hall, THERE_AND_BACK, "x y", a=[5])
        begun(hall, THERE_AND_BACK, "x y", a=[6])
        hall.work(0, "a", 9)
        hall.work(1, "a", 9)
        hall.tidy("x")
        for index in (0, 1, 2, 3):
            hall.double(index)
        hall.calm_round()
        hall.calm_round()
        hall.tidy("x")
        hall.tidy("y")
        hall.work(0, "a", 9)
        bag = hall.bag()
        self.assertEqual((hall.has_ended(0), sorted({play for play, _ in bag})), (True, [0, 1]))
        hall.put_away(0)
        self.assertEqual(hall.bag(), bag)
        hall.double(0)
        self.assertEqual(hall.bag(), bag + bag[:1])
        hall.lose(len(bag))
        cut = hall.cut(1)
        while hall.bag():
            hall.hand_over(0)
        self.assertEqual((hall.cut(1), hall.plays()), (cut, [1]))
        hall.work(1, "a", 9)
        self.assertIs(hall.has_ended(1), True)

    def test_calm_rounds_drop_them_too(self):
        hall = Hall(("x",))
        begun(hall, THERE_AND_BACK, "x x", a=[5])
        for _ in range(3):
            hall.calm_round()
        hall.tidy("x")
        self.assertTrue(hall.bag())
        hall.put_away(0)
        begun(hall, THERE_AND_BACK, "x x", a=[6])
        hall.calm_round()
        self.assertEqual((hall.bag(), hall.cut(1)), ([], (3, 0)))
        hall.calm_round()
        hall.calm_round()
        self.assertEqual((hall.has_ended(1), hall.variables(1, "a")), (True, {"n": 6, "r": 13, "q": 0}))


class Errors(unittest.TestCase):
    def test_begin(self):
        hall = Hall(("x", "y"))
        score, unclear = read_score(THERE_AND_BACK), read_score(UNCLEAR)
        right, homes = {"a": [], "b": []}, {"a": "x", "b": "y"}
        for wrong in ({}, {"a": "x"}, {"a": "x", "b": "y", "c": "x"}, {"a": "x", "c": "y"}, {"a": "x", "b": "z"},
                      {"a": "", "b": "y"}, {"a": "X", "b": "y"}):
            for given, inputs in ((score, right), (score, {}), (unclear, right), (unclear, {"a": [-1], "b": []})):
                with self.assertRaises(UnknownEnd):
                    hall.begin(given, inputs, wrong)
        for wrong in ({}, {"a": []}, {"a": [], "b": [], "c": []}, {"a": [-1], "b": []}, {"a": [], "b": [MOST + 1]}):
            for given in (score, unclear, read_score(TOO_LARGE)):
                with self.assertRaises(InvalidInputs):
                    hall.begin(given, wrong, homes)
        with self.assertRaises(Unclear):
            hall.begin(unclear, right, homes)
        with self.assertRaises(TooLarge):
            hall.begin(read_score(TOO_LARGE), right, homes)
        self.assertEqual((hall.plays(), hall.bag()), ([], []))
        self.assertEqual(hall.begin(score, right, homes), 0)

    def test_no_such_play_house_end_or_letter(self):
        hall = Hall(("x", "y"))
        begun(hall, THERE_AND_BACK, "x y", a=[5])
        begun(hall, "ends a play { }", "x")
        hall.put_away(1)
        hall.work(0, "a", 2)
        hall.tidy("x")
        before = looks(hall, {0: "ab"})
        for play in (-1, 1, 2, 99):
            for call in (lambda: hall.work(play, "a", 1), lambda: hall.work(play, "z", 1), lambda: hall.has_ended(play),
                         lambda: hall.cut(play), lambda: hall.deeds(play, "z"), lambda: hall.variables(play, "a"),
                         lambda: hall.put_away(play)):
                with self.assertRaises(NoSuchPlay):
                    call()
        for end in ("c", "", "x", "A"):
            for call in (lambda: hall.work(0, end, 1), lambda: hall.work(0, end, 0), lambda: hall.deeds(0, end),
                         lambda: hall.variables(0, end)):
                with self.assertRaises(UnknownEnd):
                    call()
        for house in ("z", "", "a", "X"):
            for call in (hall.tidy, hall.fall):
                with self.assertRaises(UnknownEnd):
                    call(house)
        for index in (-1, 1, 2, 99):
            for call in (hall.hand_over, hall.lose, hall.double):
                with self.assertRaises(NoSuchLetter):
                    call(index)
        with self.assertRaises(StillPlaying):
            hall.put_away(0)
        self.assertEqual(looks(hall, {0: "ab"}), before)


class Alone(unittest.TestCase):
    """Each play is as if it were alone in a world (point 40)."""

    def test_random_calls(self):
        for seed in range(60):
            rng = random.Random(seed)
            houses = ("x", "y", "z")[:rng.randint(1, 3)]
            one, other, ends = Hall(houses), SlowHall(houses), {}
            for _ in range(rng.choice([40, 80])):
                self.assertEqual(looks(one, ends), looks(other, ends), seed)
                name, arguments = self.call(rng, other, houses, ends)
                if name == "put_away" and not other.has_ended(*arguments):
                    with self.assertRaises(StillPlaying):
                        one.put_away(*arguments)
                    continue
                self.assertEqual(getattr(one, name)(*arguments), getattr(other, name)(*arguments), (seed, name))
            for _ in range(120):
                one.calm_round()
            self.assertTrue(all(one.has_ended(play) for play in one.plays()))

    def call(self, rng, hall, houses, ends):
        names = ["work"] * 6 + ["tidy"] * 4 + ["hand_over"] * 6 + ["fall", "calm_round", "lose", "double", "put_away"]
        name = rng.choice(names)
        if len(hall.plays()) < 2 or rng.random() < 0.03:
            tree, inputs = talk(rng.randrange(1000), most_ends=3, many=4)
            ends[hall.begun] = tree[0]
            return "begin", (Score(tree), inputs, {end: rng.choice(houses) for end in tree[0]})
        if name == "work":
            play = rng.choice(hall.plays())
            return name, (play, rng.choice(ends[play]), rng.choice([0, 1, 2, 9]))
        if name in ("tidy", "fall"):
            return name, (rng.choice(houses),)
        if name == "put_away":
            return name, (rng.choice(hall.plays()),)
        if name in ("hand_over", "lose", "double") and hall.bag():
            return name, (rng.randrange(len(hall.bag())),)
        return "calm_round", ()

    def test_the_rows_of_many_plays(self):
        hall = Hall(("x", "y"))
        runs = {}
        for seed in range(20):
            rng = random.Random(seed)
            tree, inputs = talk(seed // 2)
            score = Score(tree)
            runs[hall.begin(score, inputs, {end: rng.choice("xy") for end in tree[0]})] = PlainRun(score, inputs)
        for at in range(max(len(run.deeds) for run in runs.values()) + 1):
            if at < 5:
                hall.fall("xy"[at & 1])
            hall.calm_round()
        for play, run in runs.items():
            self.assertIs(hall.has_ended(play), True)
            for end, row in run.rows.items():
                self.assertEqual((tuple(hall.deeds(play, end)), hall.variables(play, end)), (row, run.variables[end]))


class Kept(unittest.TestCase):
    def test_what_was_given_and_returned(self):
        hall = Hall(("x", "y"))
        score = read_score(THERE_AND_BACK)
        inputs, homes = {"a": [5], "b": []}, {"a": "x", "b": "y"}
        copies = copy.deepcopy((inputs, homes))
        hall.begin(score, inputs, homes)
        self.assertEqual((inputs, homes), copies)
        inputs["a"][0] = 9
        inputs.clear()
        homes["a"] = "y"
        homes.clear()
        hall.work(0, "a", 3)
        hall.tidy("y")
        self.assertEqual(hall.bag(), [])
        hall.tidy("x")
        bag = hall.bag()
        expected = list(bag)
        bag.clear()
        for returned in (hall.bag(), hall.plays(), hall.deeds(0, "a")):
            returned.reverse()
            returned.append("spoiled")
        hall.variables(0, "a").clear()
        self.assertEqual((hall.bag(), hall.plays()), (expected, [0]))
        self.assertEqual((len(hall.deeds(0, "a")), hall.variables(0, "a")), (3, {"n": 5}))


if __name__ == "__main__":
    unittest.main()
