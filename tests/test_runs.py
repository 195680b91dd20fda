"""Plain runs in which an end does some deeds: some are found if there are any, however rarely the inputs are these."""

import random
import time
import unittest

from helpers import MOST, Score, plain_way
from onescore.flat import read_score
from onescore.meaning import Memory, PlainRun, deeds_at
from onescore.runs import AllAtOnce, OneByOne, Runs, shape_at, shape_of
from onescore.trails import answer_of
from onescore.ways import seen

ALIKE = [("number", 7), ("+", ("number", 3), ("number", 4)), ("-", ("number", 9), ("number", 2))]


def inputs_found(runs):
    """The inputs of the run that was found."""
    inputs = {end: [] for end in runs.score.ends}
    inputs[runs.end] = [deed[3] for deed in runs.deeds if deed[0] == "ask"]
    memories = {end: Memory(numbers) for end, numbers in inputs.items()}
    at, done = runs.times.first, 0
    while done < len(runs.deeds):
        position = runs.times.place(at)
        kind, end = runs.score.statements[position][:2]
        if kind == "ask" and end != runs.end:
            inputs[end].append(runs.gates.number(runs.asks[(at, done)]))
            memories[end].inputs, memories[end].used = (inputs[end][-1],), 0
        deeds = deeds_at(runs.score, position, memories)
        done += sum(deed[1] == runs.end for deed in deeds)
        at = runs.times.behind(at, runs.score.next[position][1 if answer_of(deeds[0]) == "no" else 0])
    return inputs


def some_value(rng, depth=2):
    if depth == 0 or rng.random() < 0.3:
        return rng.choice([("name", "x"), ("name", "y"), ("number", rng.choice([0, 1, 2, 3, 5, 7, 12345, MOST, 1 << 31]))])
    return (rng.choice(["<", "==", "==", "+", "-", "*"]), some_value(rng, depth - 1), some_value(rng, depth - 1))


def unclear_block(rng, ends, end, many, loops=0):
    """A block of about so many statements, in which the others decide about an end."""
    found = ()
    while many > 0:
        sort = rng.choice(["own"] * 4 + ["if"] * 4 + ["while"] * (2 if loops < 2 else 0) + ["ask", "set", "on", "to", "from"])
        other = rng.choice([name for name in ends if name != end])
        within = rng.randint(1, max(1, many // 2))
        many -= 1
        if sort == "own":
            found += (("set", end, rng.choice("kl"), rng.choice(ALIKE)),)
        elif sort == "ask":
            found += (("ask", other, rng.choice("xy")),)
        elif sort == "set":
            found += (("set", other, rng.choice("xy"), some_value(rng)),)
        elif sort in ("on", "to", "from"):
            sender, receiver = {"to": (other, end), "from": (end, other), "on": rng.sample(ends, 2)}[sort]
            found += (("message", sender, receiver, "m", some_value(rng, 1), rng.choice("xy")),)
        else:
            decides = other if rng.random() < 0.85 else end
            cut = rng.randint(0, within) if sort == "if" else within
            blocks = (unclear_block(rng, ends, end, cut, loops + (sort == "while")),)
            if sort == "if":
                blocks += (unclear_block(rng, ends, end, within - cut, loops),)
            many -= within
            found += ((sort, decides, some_value(rng)) + blocks,)
    return found


def unclear_case(seed):
    """A score, an end of it, and its row of a plain run with its looks."""
    rng = random.Random(seed)
    ends = tuple("abcd"[:rng.randint(2, 4)])
    asks = tuple(("ask", other, variable) for other in ends[:-1] for variable in "xy" if rng.random() < 0.7)
    score = Score((ends, (), asks + unclear_block(rng, ends, ends[-1], rng.choice([8, 15, 25]))))
    run = PlainRun(score, {end: [rng.choice([0, 1, 2, 5, 7, 12345, MOST, rng.getrandbits(32)]) for _ in range(rng.randint(0, 20))]
                           for end in ends})
    return score, ends[-1], list(run.rows[ends[-1]]), seen(score, plain_way(score, run.deeds), ends[-1])


class Checked(unittest.TestCase):
    def check(self, sort, score, end, deeds):
        """Whether looks are found; then, there are inputs for them."""
        runs = sort(score, end, deeds)
        looks = runs.found_looks()
        if looks is not None:
            run = PlainRun(score, inputs_found(runs))
            self.assertEqual(list(run.rows[end][:len(deeds)]), deeds)
            self.assertEqual(seen(score, plain_way(score, run.deeds), end)[:len(deeds)], looks)
        return looks is not None


class Found(Checked):
    def test_drawn_scores(self):
        many = {OneByOne: 0, AllAtOnce: 0}
        for seed in range(250):
            score, end, deeds, _ = unclear_case(seed)
            deeds = deeds[:random.Random(seed).choice([5, 20, 60])]
            if deeds:
                for sort in many:
                    many[sort] += 1
                    self.assertTrue(self.check(sort, score, end, deeds), (seed, sort))
        self.assertGreater(min(many.values()), 200)

    def test_deeds_of_no_run(self):
        for text, deeds in (("a asks n if a: n * 2 == 5 { b sets k = 7 } else { b sets k = 0 }", [("set", "b", "k", 7)]),
                            ("a asks n a -> b: k(n * 2) as x", [("get", "b", "a", "k", 7)]),
                            ("a asks n a -> b: k(n) as x a -> b: k(n + 1) as x", [("get", "b", "a", "k", 7), ("get", "b", "a", "k", 7)]),
                            ("b asks n a -> b: k(n) as x", [("ask", "b", "n", 1), ("get", "b", "a", "k", 7)]),
                            ("a asks n while a: n { b sets k = 7 }", [("set", "b", "k", 7)] * 9),
                            ("while a: 1 { b sets k = 7 } b sets k = 0", [("set", "b", "k", 7)] * 7 + [("set", "b", "k", 0)]),
                            ("while b: k < 2 { b sets k = k + 1 }", [("while", "b", 0, "yes"), ("set", "b", "k", 2)]),
                            ("while b: k { } while b: k { }", [("while", "b", 1, "no")]),
                            ("if b: k { } else { }", [("if", "b", "yes")]),
                            ("b -> a: k(7) as x", [("send", "b", "a", "l", 7)]), ("b asks n", [("ask", "b", "m", 7)])):
            score = read_score("ends a, b play { " + text + " }")
            for sort in (OneByOne, AllAtOnce):
                self.assertIsNone(sort(score, "b", deeds).found_looks(), text)

    def test_runs_with_other_deeds_come_first(self):
        for first in ("b sets l = 7", "b asks k", "b -> a: k(7) as k", "a -> b: k(7) as k", "if b: 1 { } else { }", "while b: 1 { }"):
            score = read_score("ends a, b play { a asks n if a: n { " + first + " b sets k = 8 } else { b sets k = 7 b sets k = 8 } }")
            for sort in (OneByOne, AllAtOnce):
                self.assertTrue(self.check(sort, score, "b", [("set", "b", "k", 7), ("set", "b", "k", 8)]), first)

    def test_decided_before(self):
        for value in ("n", "n < 5", "5 < n", "n == 5", "n * m", "n * (m < 7)"):
            for inner in (value, f"({value}) == 0"):
                blocks = ["{ b sets k = 0 }", "{ b sets k = 3 + 4 }"]
                blocks = blocks if inner == value else blocks[::-1]
                score = read_score("ends a, b play { a asks n a asks m if a: " + value + " { if a: " + inner + " " +
                                   " else ".join(blocks) + " } else { b sets k = 7 } }")
                for sort in (OneByOne, AllAtOnce):
                    self.assertEqual(sort(score, "b", [("set", "b", "k", 7)]).found_looks(), [("set", "k", ("number", 7))], inner)

    def test_own_answers(self):
        # Both answers of b lead to the same deeds, but only one of them fits what a decided.
        head = "a asks n if a: n == 5 { a -> b: k(1) as x } else { a -> b: k(1) as y } "
        got = ("get", "b", "a", "k", 1)
        for answer, variable in (("yes", "x"), ("no", "y")):
            score = read_score("ends a, b play { " + head + "if b: x { } else { } b sets k = 7 }")
            for sort in (OneByOne, AllAtOnce):
                looks = sort(score, "b", [got, ("if", "b", answer), ("set", "b", "k", 7)]).found_looks()
                self.assertEqual(looks[:2], [("get", "a", "k", variable), ("if", ("name", "x"), answer)])
            score = read_score("ends a, b play { " + head + "while b: x { b sets x = 0 } b sets k = 7 }")
            rounds = [("while", "b", 4, "yes"), ("set", "b", "x", 0)] if answer == "yes" else []
            for sort in (OneByOne, AllAtOnce):
                looks = sort(score, "b", [got] + rounds + [("while", "b", 4, "no"), ("set", "b", "k", 7)]).found_looks()
                self.assertEqual(looks[0], ("get", "a", "k", variable))

    def test_each_kind_of_deed(self):
        score = read_score("ends a, b play { a asks n b asks m a -> b: k(n + 1) as x b -> a: l(x * m) as y while b: 2 < x { "
                           "b sets x = x - 1 } if b: x == 2 { a -> b: up(y - 3) as z } else { a -> b: down(y - 4) as x } }")
        for number, mine in ((9, 5), (1, 0), (0, 7), (MOST, MOST)):
            run = PlainRun(score, {"a": [number], "b": [mine]})
            for many in range(1, len(run.rows["b"]) + 1):
                for sort in (OneByOne, AllAtOnce):
                    self.assertTrue(self.check(sort, score, "b", list(run.rows["b"][:many])))

    def test_rounds_of_the_others(self):
        text = ("a asks n while a: n { a sets m = m + 1 a sets n = n - 1 } if a: m == 8 { b sets k = 7 } else { if a: m == 9 { "
                "b sets k = 3 + 4 } else { b sets k = 0 } }")
        score = read_score("ends a, b play { " + text + " }")
        for sort in (OneByOne, AllAtOnce):
            self.assertEqual(sort(score, "b", [("set", "b", "k", 7)]).found_looks(), [("set", "k", ("number", 7))])
            runs = sort(score, "b", [("set", "b", "k", 7)])
            runs.found_looks()
            self.assertGreaterEqual(inputs_found(runs)["a"][0], 8)

    def test_shapes(self):
        score = read_score("ends a, b play { a -> b: k(1) as x b -> a: l(2) as y b sets z = 3 b asks w if b: 4 { } else { } "
                           "while b: 5 { } }")
        run = PlainRun(score, {"a": [], "b": []})
        shapes = [shape_at(score, position, answer, "b") for position, answer in plain_way(score, run.deeds)]
        self.assertEqual(shapes, [shape_of(deed) for deed in run.rows["b"]])
        self.assertEqual(shapes[:-8], [("get", "b", "a", "k"), ("send", "b", "a", "l"), ("set", "b", "z"), ("ask", "b", "w"),
                                       ("if", "b", "yes"), ("while", "b", 5, "yes")])


class Large(Checked):
    def setUp(self):
        self.before = time.monotonic()

    def tearDown(self):
        self.assertLess(time.monotonic() - self.before, 20)

    def test_very_many_runs_that_differ_in_what_does_not_matter(self):
        # Only what the first input was tells something, behind very many other decisions.
        text = "a asks first " + "a asks n if a: n * n == n + 2 { c sets x = x + 1 } else { c sets x = x * 3 } " * 25
        text += "if a: first * 3 == 77777 { b sets k = 7 } else { b sets k = 0 } if a: first < 5 { b sets k = 3 + 4 } else { b sets k = 7 }"
        score = read_score("ends a, b, c play { " + text + " }")
        deeds = [("set", "b", "k", 7)] * 2
        runs = AllAtOnce(score, "b", deeds)
        self.assertEqual(runs.found_looks(), [("set", "k", ("number", 7))] * 2)
        self.assertLess(len(runs.asks), 30)
        self.assertTrue(self.check(AllAtOnce, score, "b", deeds))

    def test_very_many_memories(self):
        text = " ".join(f"a asks n if a: n {{ a -> b: k(1) as x{at} }} else {{ a -> b: k(1) as y{at} }}" for at in range(35))
        text += " b sets z = " + " + ".join(f"{at + 1} * x{at}" for at in range(35))
        score = read_score("ends a, b play { " + text + " }")
        self.assertTrue(self.check(AllAtOnce, score, "b", [("get", "b", "a", "k", 1)] * 35 + [("set", "b", "z", 300)]))

    def test_very_many_rounds(self):
        text = ("a asks n a asks p a asks q while a: n < 5 { a sets m = p while a: m < 5 { a sets k = q while a: k < 5 { "
                "if a: n * m * k == 8 { b sets k = 7 } else { if a: n == m { b sets k = 3 + 4 } else { } } "
                "a sets k = k + 1 } a sets m = m + 1 } a sets n = n + 1 }")
        score = read_score("ends a, b play { " + text + " }")
        for inputs in ([0, 0, 0], [1, 2, 0], [2, 0, 1]):
            deeds = list(PlainRun(score, {"a": inputs, "b": []}).rows["b"])
            self.assertTrue(self.check(OneByOne, score, "b", deeds))

    def test_puzzles(self):
        for text in ("if a: (n * m == 1234567) * (1 < n) * (n < 1000) { b sets k = 7 } else { }",
                     "if a: (n * n + m * m == 85 * 85) * (0 < n) * (n < m) * (m < 85) { b sets k = 7 } else { }",
                     "a sets n = n * n + 1 a sets n = n * n + 1 if a: n == 3803820197 { b sets k = 7 } else { }",
                     "a sets k = n while a: m { a sets k = k * 3 + 1 a sets m = m - 1 } if a: k == 4000000000 { b sets k = 7 } else { }"):
            score = read_score("ends a, b play { a asks n a asks m " + text + " }")
            self.assertTrue(self.check(AllAtOnce, score, "b", [("set", "b", "k", 7)]), text)

    def test_giving_up(self):
        text = "a asks n a asks m if a: (n * m == 4294967291) * (1 < n) * (1 < m) * (n < 65536) * (m < 65536) { b sets k = 7 } else { }"
        score = read_score("ends a, b play { " + text + " }")
        for sort in (OneByOne, AllAtOnce):
            runs = sort(score, "b", [("set", "b", "k", 7)])
            runs.gates.effort = 100000
            self.assertIsNone(runs.found_looks())
            runs = sort(score, "b", [("set", "b", "k", 7)])
            runs.steps_left = 0
            self.assertIsNone(runs.found_looks())
            runs = sort(score, "b", [("set", "b", "k", 7)])
            runs.gates.most_variables = 100
            self.assertIsNone(runs.found_looks())


class Next(unittest.TestCase):
    def test_no_hope(self):
        # In the yes block, b cannot do what it did: so no run is followed there.
        text = "a asks n if a: n { while a: n { a asks n c sets x = n } b asks k } else { while a: n { } b sets k = 7 }"
        score = read_score("ends a, b, c play { " + text + " }")
        runs = Runs(score, "b", [("set", "b", "k", 7)], 1000)
        self.assertEqual([runs.hopes[0] >> position & 1 for position in range(len(score.statements) + 1)],
                         [1, 1, 0, 0, 0, 0, 1, 1, 0])
        self.assertEqual(runs.hopes[1], (1 << len(score.statements) + 1) - 1)
        runs = AllAtOnce(score, "b", [("set", "b", "k", 7)])
        self.assertEqual(runs.found_looks(), [("set", "k", ("number", 7))])
        self.assertEqual(list(runs.asks), [((0,), 0)])

    def test_what_deeds_tell_of_others(self):
        # The number of the letter tells how often a goes on: there is nothing left to find out.
        score = read_score("ends a, b play { a asks n a -> b: k(n * 3) as x while a: n { a -> b: l(0) as x a sets n = n - 1 } "
                           "b sets x = 1 }")
        run = PlainRun(score, {"a": [4], "b": []})
        runs = AllAtOnce(score, "b", list(run.rows["b"]))
        self.assertEqual(runs.found_looks()[1:], [("get", "a", "l", "x")] * 4 + [("set", "x", ("number", 1))])
        self.assertEqual(inputs_found(runs), {"a": [4], "b": []})
        self.assertLess(len(runs.terms.nodes), 40)


if __name__ == "__main__":
    unittest.main()
