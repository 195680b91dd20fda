"""Point 35: the least and the greatest price of a score."""

import random
import time
import unittest

from helpers import ZERO, random_block, random_score
from onescore.flat import Score, read_score
from onescore.meaning import PlainRun
from onescore.prices import greatest_price, least_price

M = "a -> b: k(0) as x "


def prices(text, ends="a, b"):
    score = read_score(f"ends {ends} play {{ {text} }}")
    return least_price(score), greatest_price(score)


def whole_prices(score, most=20000):
    """The prices of all bounded, whole ways, gone through one by one, or None if there are too many."""
    found = set()
    waiting = [(0, {}, 0)]
    tried = 0
    while waiting:
        tried += 1
        if tried > most:
            return None
        place, rounds, price = waiting.pop()
        if place == len(score.statements):
            found.add(price)
            continue
        kind, goals = score.statements[place][0], score.next[place]
        if kind == "while":
            waiting.append((goals[1], {**rounds, place: 0}, price))
            if rounds.get(place, 0) < 8:
                waiting.append((goals[0], {**rounds, place: rounds.get(place, 0) + 1}, price))
        else:
            waiting.extend([(goal, rounds, price + (kind == "message")) for goal in goals])
    return found


def block_prices(block):
    """The prices of all ways through a block, from those of its statements."""
    found = {0}
    for statement in block:
        if statement[0] == "message":
            own = {1}
        elif statement[0] == "if":
            own = block_prices(statement[3]) | block_prices(statement[4])
        elif statement[0] == "while":
            once = block_prices(statement[3])
            own, so_far = {0}, {0}
            for _ in range(8):
                so_far = {one + other for one in so_far for other in once}
                own |= so_far
        else:
            own = {0}
        found = {one + other for one in found for other in own}
    return found


class Prices(unittest.TestCase):
    def test_no_choice(self):
        self.assertEqual(prices(""), (0, 0))
        self.assertEqual(prices("a asks n a sets n = 1 b asks n"), (0, 0))
        self.assertEqual(prices(M), (1, 1))
        self.assertEqual(prices(M + "b -> a: k(0) as x a asks n " + M), (3, 3))
        self.assertEqual(prices("a asks n", "a"), (0, 0))

    def test_ifs(self):
        self.assertEqual(prices("if a: 1 { } else { }"), (0, 0))
        self.assertEqual(prices("if a: 1 { " + M + "} else { }"), (0, 1))
        self.assertEqual(prices("if a: 1 { } else { " + M * 3 + "}"), (0, 3))
        self.assertEqual(prices("if a: 0 { " + M * 2 + "} else { " + M * 5 + "} " + M), (3, 6))
        self.assertEqual(prices(M + "if a: 1 { if b: 1 { " + M * 4 + "} else { " + M + "} } else { " + M * 2 + "}"),
                         (2, 5))

    def test_ways_do_not_look_at_values(self):
        self.assertEqual(prices("while a: 0 { " + M + "} if a: 1 { } else { " + M + "}"), (0, 9))

    def test_whiles(self):
        self.assertEqual(prices("while a: 1 { }"), (0, 0))
        self.assertEqual(prices("while a: 1 { " + M + "}"), (0, 8))
        self.assertEqual(prices("while a: 1 { " + M * 3 + "}"), (0, 24))
        self.assertEqual(prices("while a: 1 { a asks n }"), (0, 0))
        self.assertEqual(prices(M + "while a: 1 { " + M * 2 + "}"), (1, 17))
        self.assertEqual(prices("while a: 1 { " + M * 2 + "} " + M), (1, 17))
        self.assertEqual(prices(M + "while a: 1 { " + M + "} " + M), (2, 10))
        self.assertEqual(prices("while a: 1 { " + M + "} while b: 1 { " + M * 2 + "}"), (0, 24))

    def test_whiles_and_ifs_inside_of_each_other(self):
        self.assertEqual(prices("while a: 1 { while a: 1 { " + M + "} }"), (0, 64))
        self.assertEqual(prices("while a: 1 { " + M + "while a: 1 { " + M + "} " + M + "}"), (0, 80))
        self.assertEqual(prices("while a: 1 { if b: 1 { " + M + "} else { " + M * 2 + "} }"), (0, 16))
        self.assertEqual(prices("if a: 1 { while b: 1 { " + M + "} } else { " + M * 9 + "}"), (0, 9))
        self.assertEqual(prices("if a: 1 { " + M + "while b: 1 { " + M + "} } else { " + M * 2 + "}"), (1, 9))
        self.assertEqual(prices("while a: 1 { if a: 1 { while b: 1 { " + M + "} } else { } " + M + "} " + M), (1, 73))

    def test_parts(self):
        score = read_score(f"ends a, b part p(a, b) {{ while a: 1 {{ {M} }} {M} }} play {{ call p(a, b) call p(b, a) }}")
        self.assertEqual((least_price(score), greatest_price(score)), (2, 18))

    def test_all_bounded_whole_ways(self):
        compared = 0
        for seed in range(400):
            score = random_score(seed, many=7)
            found = whole_prices(score)
            if found is not None:
                compared += 1
                self.assertEqual((least_price(score), greatest_price(score)), (min(found), max(found)), seed)
        self.assertGreater(compared, 200)

    def test_prices_of_blocks(self):
        for seed in range(150):
            block = random_block(random.Random(seed), ("a", "b", "c"), 12)
            found = block_prices(block)
            score = Score((("a", "b", "c"), (), block))
            self.assertEqual((least_price(score), greatest_price(score)), (min(found), max(found)), seed)

    def test_plain_runs_are_between(self):
        for seed in range(150):
            score = random_score(seed, many=10)
            price = sum(deed[0] == "send" for deed in PlainRun(score, {end: [3] for end in score.ends}).deeds)
            self.assertLessEqual(least_price(score), price)
            self.assertLessEqual(price, greatest_price(score))
        text = f"while a: 1 {{ {M} while a: 1 {{ {M} }} }}"
        self.assertEqual(sum(deed[0] == "send" for deed in
                             PlainRun(read_score(f"ends a, b play {{ {text} }}"), {"a": [], "b": []}).deeds), 72)
        self.assertEqual(prices(text), (0, 72))

    def test_very_many_ways(self):
        before = time.monotonic()
        self.assertEqual(prices("while a: 1 { while b: 1 { while a: 1 { " + M + "} } }"), (0, 512))
        self.assertEqual(prices("while a: 1 { " + M + "while b: 1 { " + M + "while a: 1 { " + M + "} } }"),
                         (0, 8 * (1 + 8 * (1 + 8))))
        self.assertEqual(prices(("if a: 1 { " + M + "} else { " + M * 2 + "} ") * 37), (37, 74))
        self.assertEqual(prices(("while a: 1 { " + M + "} ") * 75), (0, 600))
        self.assertEqual(prices("while a: 1 { while a: 1 { while a: 1 { " + ("if a: 1 { " + M + "} else { } ") * 70 +
                                "} } }"), (0, 70 * 512))
        block = ()
        for _ in range(70):
            block = (("if", "a", ZERO, block, (("message", "a", "b", "k", ZERO, "x"),)),)
        found = block_prices(block)
        score = Score((("a", "b"), (), block))
        self.assertEqual((least_price(score), greatest_price(score)), (min(found), max(found)))
        self.assertLess(time.monotonic() - before, 2)


if __name__ == "__main__":
    unittest.main()
