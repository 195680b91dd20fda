"""Points 41 and 42: accounts that a way explains, or explains in part, and looks that are told from deeds."""

import copy
import itertools
import random
import time
import unittest

from helpers import (MOST, ONE, ZERO, plain_way, random_calls, random_score, random_told_score, random_way, talk)
from onescore.accounts import explanation, looks_of, part_explanation
from onescore.errors import TooLarge, UnknownEnd
from onescore.flat import Score, read_score
from onescore.meaning import PlainRun
from onescore.ways import is_way, place, seen
from onescore.world import World

N = ("name", "n")
TALK = "ends a, b play { while a: n { a -> b: more(n) as k a sets n = n - 1 } a -> b: stop(0) as k }"
YES, NO = ("while", 0, N, "yes"), ("while", 0, N, "no")
MORE, GOT = ("send", "b", "more", N), ("get", "a", "more", "k")
LESS = ("set", "n", ("-", N, ONE))
STOP, STOPPED = ("send", "b", "stop", ZERO), ("get", "a", "stop", "k")


def account_of(score, way):
    return {end: seen(score, way, end) for end in score.ends}


def gets_are_sent(account):
    """Whether no end got more letters from another one than the looks of that one say it sent."""
    return all(sum(look[:2] == ("get", other) for look in account[end]) <=
               sum(look[:2] == ("send", end) for look in account[other]) for end in account for other in account)


def explains_in_part(score, account, way):
    return is_way(score, way) and gets_are_sent(account) and all(
        seen(score, way, end)[:len(looks)] == looks for end, looks in account.items())


def can_be_explained_in_part(score, account):
    """Whether there is such a way, by all pairs of a place and the numbers of looks that were seen."""
    if not all(sum(look[:2] == ("get", other) for look in account[end]) <=
               sum(look[:2] == ("send", end) for look in account.get(other, [])) for end in account
               for other in {look[1] for look in account[end] if look[0] == "get"}):
        return False
    waiting = [(0, (0,) * len(score.ends))]
    reached = set(waiting)
    for position, many in waiting:
        if all(number == len(account[end]) for number, end in zip(many, score.ends)):
            return True
        if position == len(score.statements):
            continue
        answers = ("yes", "no") if score.statements[position][0] in ("if", "while") else ("",)
        for answer, goal in zip(answers, score.next[position]):
            after = []
            for number, end in zip(many, score.ends):
                looks = seen(score, [(position, answer)], end)
                fits = number == len(account[end]) or looks == account[end][number:number + 1]
                after.append(number if not looks or number == len(account[end]) else number + 1 if fits else None)
            if None not in after and (goal, tuple(after)) not in reached:
                reached.add((goal, tuple(after)))
                waiting.append((goal, tuple(after)))
    return False


def spoiled(rng, score, account):
    """An account in which something was changed."""
    account = {end: list(looks) for end, looks in account.items()}
    full = [end for end in account if account[end]]
    if not full:
        return account
    end = rng.choice(full)
    looks, at = account[end], rng.randrange(len(account[end]))
    change = rng.randrange(6)
    if change == 0:
        looks.insert(at, rng.choice(looks))
    elif change == 1:
        del looks[at]
    elif change == 2:
        other = rng.randrange(len(looks))
        looks[at], looks[other] = looks[other], looks[at]
    elif change == 3:
        looks[at] = rng.choice([("set", "x", ONE), ("ask", "zz"), ("send", "zz", "k", ZERO), ("get", "zz", "k", "x"),
                                ("if", ("number", 77), "yes"), ("while", 99, ZERO, "no")])
    elif change == 4:
        part = rng.randrange(1, len(looks[at]))
        old = looks[at][part]
        new = 7 if isinstance(old, int) else {"yes": "no", "no": "yes"}.get(old, old + "x") if isinstance(old, str) else \
            ("number", 77)
        looks[at] = looks[at][:part] + (new,) + looks[at][part + 1:]
    else:
        other = rng.choice(sorted(account))
        account[other].insert(rng.randint(0, len(account[other])), looks.pop(at))
    return account


class Explained(unittest.TestCase):
    def test_a_talk(self):
        score = read_score(TALK)
        self.assertEqual(explanation(score, {"a": [], "b": []}), [])
        self.assertEqual(explanation(score, {"a": [YES], "b": []}), [(0, "yes")])
        self.assertEqual(explanation(score, {"a": [NO, STOP], "b": [STOPPED]}), [(0, "no"), (3, "")])
        way = [(0, "yes"), (1, ""), (2, ""), (0, "yes"), (1, ""), (2, ""), (0, "no"), (3, "")]
        account = {"a": [YES, MORE, LESS, YES, MORE, LESS, NO, STOP], "b": [GOT, GOT, STOPPED]}
        self.assertEqual(explanation(score, account), way)
        self.assertEqual(explanation(score, {"a": account["a"][:6], "b": account["b"][:2]}), way[:6])
        for a, b in (([], [GOT]), ([YES], [GOT]), ([YES, MORE], []), ([YES, MORE], [STOPPED]), ([YES, MORE], [GOT, GOT]),
                     ([YES, LESS], []), ([YES, LESS, MORE], [GOT]), ([YES, MORE, YES], [GOT]), ([NO, MORE], [GOT]),
                     ([NO, STOP, NO], [STOPPED]), ([NO, STOP, STOP], [STOPPED, STOPPED]), ([MORE], [GOT]), ([GOT], [MORE]),
                     ([NO, STOP], [])):
            self.assertIsNone(explanation(score, {"a": a, "b": b}), (a, b))

    def test_other_parts_in_a_look(self):
        score = read_score("ends a, b play { a asks n if a: n { a sets n = 1 a -> b: k(n + 1) as x } else { } }")
        right = {"a": [("ask", "n"), ("if", N, "yes"), ("set", "n", ONE), ("send", "b", "k", ("+", N, ONE))],
                 "b": [("get", "a", "k", "x")]}
        self.assertEqual(explanation(score, right), [(0, ""), (1, "yes"), (2, ""), (3, "")])
        for at, wrong in ((0, ("ask", "m")), (0, ("set", "n", ZERO)), (1, ("if", ONE, "yes")), (1, ("if", N, "no")),
                          (1, ("if", N, "")), (1, ("while", 1, N, "yes")), (2, ("set", "m", ONE)), (2, ("set", "n", ZERO)),
                          (2, ("set", "n", N)), (3, ("send", "a", "k", ("+", N, ONE))), (3, ("send", "b", "l", ("+", N, ONE))),
                          (3, ("send", "b", "k", ("-", N, ONE))), (3, ("send", "b", "k", ("+", ONE, N))),
                          (3, ("get", "b", "k", "x"))):
            account = {"a": right["a"][:at] + [wrong] + right["a"][at + 1:], "b": right["b"]}
            self.assertIsNone(explanation(score, account), wrong)
            self.assertIsNone(part_explanation(score, account), wrong)
        for wrong in (("get", "b", "k", "x"), ("get", "a", "l", "x"), ("get", "a", "k", "y"), ("send", "a", "k", "x"),
                      ("get", "c", "k", "x"), ("ask", "x")):
            self.assertIsNone(explanation(score, {"a": right["a"], "b": [wrong]}), wrong)
            self.assertIsNone(part_explanation(score, {"a": right["a"], "b": [wrong]}), wrong)

    def test_positions_of_whiles(self):
        score = read_score("ends a play { while a: n { } while a: n { } }")
        for first, second, way in ((0, 1, [(0, "no"), (1, "no")]), (1, 0, None), (0, 0, None), (1, 1, None), (0, 2, None)):
            account = {"a": [("while", first, N, "no"), ("while", second, N, "no")]}
            self.assertEqual(explanation(score, account), way)
            self.assertEqual(part_explanation(score, account), way)

    def test_drawn_ways(self):
        for seed in range(300):
            rng = random.Random(seed)
            score = random_score(seed, most_ends=4, many=rng.choice([6, 12]))
            way = random_way(rng, score, rng.choice([5, 15, 30]))
            account = account_of(score, way)
            if sum(map(len, account.values())) <= 60:
                self.assertEqual(explanation(score, account), way, seed)
                self.assertTrue(explains_in_part(score, account, part_explanation(score, account)), seed)

    def test_spoiled_accounts(self):
        kinds = {True: 0, False: 0}
        for seed in range(500):
            rng = random.Random(seed)
            score = random_score(seed, most_ends=4, many=rng.choice([4, 8]))
            account = spoiled(rng, score, account_of(score, random_way(rng, score, 10)))
            way = explanation(score, account)
            kinds[way is None] += 1
            if way is not None:
                self.assertTrue(is_way(score, way))
                self.assertEqual(account_of(score, way), account)
            else:
                # Every way gives an end its looks one by one: so no way is longer than the account.
                self.assertFalse(any(account_of(score, other) == account for other in all_account_ways(score, account)))
        self.assertGreater(kinds[True], 100)
        self.assertGreater(kinds[False], 20)

    def test_many_times_through_whiles(self):
        score = read_score("ends a, b play { while a: n { while a: n { a -> b: k(n) as k } while a: n { } } }")
        outer, first, second = [("while", at, N, "yes") for at in (0, 1, 3)]
        k, l = ("send", "b", "k", N), ("get", "a", "k", "k")
        looks = [outer] + [first, k] * 12 + [("while", 1, N, "no")] + [second] * 10 + [("while", 3, N, "no"), outer]
        way = explanation(score, {"a": looks, "b": [l] * 12})
        self.assertEqual(account_of(score, way), {"a": looks, "b": [l] * 12})
        self.assertEqual(len(way), len(looks))
        self.assertEqual(part_explanation(score, {"a": looks, "b": [l] * 12}), way)
        self.assertTrue(explains_in_part(score, {"a": looks, "b": [l] * 5}, part_explanation(score, {"a": looks, "b": [l] * 5})))
        self.assertIsNone(part_explanation(score, {"a": looks, "b": [l] * 13}))

    def test_a_score_without_statements(self):
        score = read_score("ends a, b play { }")
        for function in (explanation, part_explanation):
            self.assertEqual(function(score, {"a": [], "b": []}), [])
            self.assertIsNone(function(score, {"a": [("ask", "n")], "b": []}))

    def test_deep_values(self):
        text = "ends a, b play { a -> b: k(" + " + ".join(["x"] * 1300) + ") as x a sets x = " + " * ".join(["x"] * 1300) + " }"
        score = read_score(text)
        account = account_of(score, [(0, ""), (1, "")])
        for function in (explanation, part_explanation):
            self.assertEqual(function(score, account), [(0, ""), (1, "")])
            self.assertIsNone(function(score, {"a": account["a"][::-1], "b": account["b"]}))


def all_account_ways(score, account):
    """All ways with no more steps than an account has looks, as far as each end sees the account's looks."""
    waiting = [[]]
    while waiting:
        way = waiting.pop()
        looks = account_of(score, way)
        if not all(account[end][:len(looks[end])] == looks[end] for end in score.ends):
            continue
        yield way
        at = place(score, way)
        if at < len(score.statements):
            answers = ("yes", "no") if score.statements[at][0] in ("if", "while") else ("",)
            waiting.extend([way + [(at, answer)] for answer in answers])


class InPart(unittest.TestCase):
    def check(self, score, account, expected=None):
        way = part_explanation(score, account)
        if way is not None:
            self.assertTrue(explains_in_part(score, account, way), (account, way))
        if expected is not None:
            self.assertIs(way is not None, expected, account)
        return way is not None

    def test_a_talk(self):
        score = read_score(TALK)
        a, b = [YES, MORE, LESS, YES, MORE, LESS, NO, STOP], [GOT, GOT, STOPPED]
        for many in range(9):
            sent = sum(look[0] == "send" for look in a[:many])
            for got in range(4):
                self.check(score, {"a": a[:many], "b": b[:got]}, got <= sent)
        self.check(score, {"a": [NO], "b": []}, True)
        self.check(score, {"a": [NO, STOP], "b": [GOT]}, False)
        self.check(score, {"a": [YES, MORE], "b": [STOPPED]}, False)
        self.check(score, {"a": [YES, MORE, LESS, NO, STOP], "b": [STOPPED, GOT]}, False)
        self.check(score, {"a": [YES, MORE, LESS, NO, STOP, NO], "b": [GOT]}, False)
        self.check(score, {"a": [LESS], "b": []}, False)

    def test_letters_that_nobody_sent(self):
        # With other looks of the sender behind its own, there would be a way: but it does not say that it sent them.
        score = read_score("ends a, b play { a -> b: k(1) as x a -> b: l(2) as x b -> a: m(3) as y }")
        k, l, m = ("send", "b", "k", ONE), ("send", "b", "l", ("number", 2)), ("send", "a", "m", ("number", 3))
        got_k, got_l, got_m = ("get", "a", "k", "x"), ("get", "a", "l", "x"), ("get", "b", "m", "y")
        self.check(score, {"a": [], "b": [got_k]}, False)
        self.check(score, {"a": [k], "b": [got_k]}, True)
        self.check(score, {"a": [k], "b": [got_k, got_l]}, False)
        self.check(score, {"a": [k, l], "b": [got_k, got_l]}, True)
        self.check(score, {"a": [k, l], "b": [got_k, got_l, m]}, True)
        self.check(score, {"a": [k, l, got_m], "b": [got_k, got_l]}, False)
        self.check(score, {"a": [k, l, got_m], "b": [got_k, got_l, m]}, True)
        self.check(score, {"a": [k, l], "b": []}, True)
        # b cannot have sent before it got; a's account alone goes on.
        self.check(score, {"a": [k, l, got_m], "b": [m]}, False)

    def test_others_decide_freely_behind_their_looks(self):
        score = read_score("ends a, b, c play { while a: n { if a: n { b sets x = 0 } else { c sets x = 0 } } b sets y = 1 }")
        x, y = ("set", "x", ZERO), ("set", "y", ONE)
        for many in (0, 1, 5, 20):
            self.check(score, {"a": [], "b": [x] * many, "c": [x] * many}, True)
            self.check(score, {"a": [], "b": [x] * many + [y], "c": [x] * many}, True)
            self.check(score, {"a": [], "b": [y] + [x] * many, "c": []}, many == 0)
        self.check(score, {"a": [("while", 0, N, "no")], "b": [x], "c": []}, False)
        self.check(score, {"a": [("while", 0, N, "no")], "b": [y], "c": []}, True)
        self.check(score, {"a": [("while", 0, N, "yes"), ("if", N, "yes"), ("while", 0, N, "no")], "b": [], "c": [x]}, False)
        self.check(score, {"a": [("while", 0, N, "yes"), ("if", N, "yes")], "b": [], "c": [x]}, True)

    def test_cut_off_at_each_place(self):
        for seed in range(120):
            rng = random.Random(seed)
            score = random_told_score(seed, most_ends=4, many=5, share=0.3)
            account = account_of(score, random_way(rng, score, 25))
            if sum(map(len, account.values())) > 60:
                continue
            for end in score.ends:
                for many in range(len(account[end])):
                    cut = {**account, end: account[end][:many]}
                    self.check(score, cut, gets_are_sent(cut))
            for _ in range(5):
                cut = {end: looks[:rng.randint(0, len(looks))] for end, looks in account.items()}
                self.check(score, cut, gets_are_sent(cut))

    def test_spoiled_accounts(self):
        kinds = {True: 0, False: 0}
        for seed in range(900):
            rng = random.Random(seed)
            score = random_score(seed, most_ends=4, many=rng.choice([4, 8]))
            account = account_of(score, random_way(rng, score, rng.choice([4, 10])))
            for _ in range(rng.choice([0, 1, 1, 2])):
                account = spoiled(rng, score, account)
            if rng.random() < 0.7:
                account = {end: looks[:rng.randint(0, len(looks))] for end, looks in account.items()}
            expected = can_be_explained_in_part(score, account)
            kinds[expected] += 1
            self.check(score, account, expected)
        self.assertGreater(kinds[True], 200)
        self.assertGreater(kinds[False], 200)

    def test_accounts_of_different_ways(self):
        kinds = {True: 0, False: 0}
        for seed in range(400):
            rng = random.Random(seed)
            score = random_score(seed, most_ends=3, many=9)
            first, second = [account_of(score, random_way(rng, score, 9)) for _ in range(2)]
            mixed = {end: rng.choice([first, second])[end] for end in score.ends}
            mixed = {end: looks[:rng.randint(0, len(looks))] for end, looks in mixed.items()}
            expected = can_be_explained_in_part(score, mixed)
            kinds[expected] += 1
            self.check(score, mixed, expected)
        self.assertGreater(kinds[True], 100)
        self.assertGreater(kinds[False], 50)

    def test_very_many_ways(self):
        before = time.monotonic()
        ends = "bcdef"
        body = " ".join(f"if a: 1 {{ {ends[at - at // 5 * 5]} sets x = 0 }} else {{ }}" for at in range(60))
        score = read_score(f"ends a, b, c, d, e, f play {{ while a: 1 {{ {body} }} }}")
        x = ("set", "x", ZERO)
        self.check(score, {"a": [], **{end: [x] * 12 for end in ends}}, True)
        self.check(score, {"a": [], **{end: [x] * 12 for end in "bcde"}, "f": [x] * 11 + [("set", "y", ZERO)]}, False)
        self.check(score, {"a": [("while", 0, ONE, "yes"), ("if", ONE, "yes")], "b": [x] * 30, **{end: [] for end in "cdef"}}, True)
        score = read_score("ends a, b, c play { while a: 1 { if a: 1 { b sets x = 0 } else { c sets x = 0 } } "
                           "if a: 1 { b sets y = 0 } else { c sets y = 0 } }")
        y = ("set", "y", ZERO)
        self.check(score, {"a": [], "b": [x] * 29 + [y], "c": [x] * 30}, True)
        self.check(score, {"a": [], "b": [x] * 29 + [y], "c": [x] * 29 + [y]}, False)
        self.assertLess(time.monotonic() - before, 5)

    def test_worlds_at_any_moment(self):
        checked = 0
        for seed in range(60):
            tree, inputs = talk(seed, most_ends=3, many=5)
            score, rng = Score(tree), random.Random(seed)
            world = World(score, inputs)
            for name, arguments in random_calls(rng, world, score.ends, 60):
                getattr(world, name)(*arguments)
                account = {end: looks_of(world.deeds(end), score, end) for end in score.ends}
                if sum(map(len, account.values())) <= 60 and rng.random() < 0.4:
                    checked += 1
                    self.check(score, account, True)
        self.assertGreater(checked, 300)


class Errors(unittest.TestCase):
    def test_ends(self):
        score = read_score(TALK)
        much = [("ask", "x")] * 61
        for account in ({}, {"a": []}, {"b": []}, {"a": [], "b": [], "c": []}, {"a": [], "c": []}, {"a": much},
                        {"a": much, "b": [], "": []}, {"a": much, "B": []}):
            for function in (explanation, part_explanation):
                with self.assertRaises(UnknownEnd):
                    function(score, account)

    def test_sizes(self):
        score = read_score("ends a, b play { while a: 1 { b sets x = 0 } }")
        yes, x = ("while", 0, ONE, "yes"), ("set", "x", ZERO)
        self.assertEqual(len(explanation(score, {"a": [yes] * 30, "b": [x] * 30})), 60)
        self.assertEqual(len(part_explanation(score, {"a": [yes] * 30, "b": [x] * 30})), 60)
        for many in range(0, 61, 5):
            way = part_explanation(score, {"a": [yes] * many, "b": [x] * (60 - many)})
            self.assertTrue(explains_in_part(score, {"a": [yes] * many, "b": [x] * (60 - many)}, way))
        for account in ({"a": [yes] * 31, "b": [x] * 30}, {"a": [yes] * 61, "b": []}, {"a": [], "b": [x] * 61},
                        {"a": [yes] * 100, "b": [x] * 100}, {"a": [("nonsense",)] * 61, "b": []}):
            for function in (explanation, part_explanation):
                with self.assertRaises(TooLarge):
                    function(score, account)
        self.assertIsNone(explanation(score, {"a": [("ask", "x")] * 60, "b": []}))


def some_inputs(score, numbers, most):
    """Inputs with numbers from a few, so many for each end."""
    rows = list(itertools.product(numbers, repeat=most))
    for choice in itertools.product(rows, repeat=len(score.ends)):
        yield {end: list(row) for end, row in zip(score.ends, choice)}


def compared_block(rng, many, decided=0):
    """A block in which a and c decide by comparing their inputs x and y with 5 and 9, and b does what tells little."""
    found = ()
    while many > 0:
        many -= 1
        if rng.random() < 0.5 and decided < 4:
            name, number = ("name", rng.choice("xy")), ("number", rng.choice([5, 9]))
            value = rng.choice([("<", name, number), ("<", number, name), ("==", name, number), ("==", number, name), name])
            inner = rng.randint(1, max(1, many))
            many -= inner
            cut = rng.randint(0, inner)
            found += (("if", rng.choice("aac"), value, compared_block(rng, cut, decided + 1),
                       compared_block(rng, inner - cut, decided + 1)),)
        elif rng.random() < 0.7:
            found += (("set", "b", "k", rng.choice([("number", 7), ("+", ("number", 3), ("number", 4)), ("number", 0)])),)
        else:
            found += (("message", "a", "b", "k", rng.choice([ZERO, ("name", "x")]), rng.choice("kl")),)
    return found


class Looks(unittest.TestCase):
    def check(self, text, **inputs):
        """Tells the looks of each end from each beginning of its row of the plain run of a text."""
        score = read_score(text)
        run = PlainRun(score, {end: inputs.get(end, []) for end in score.ends})
        way = plain_way(score, run.deeds)
        for end in score.ends:
            looks = seen(score, way, end)
            for many in range(len(looks) + 1):
                self.assertEqual(looks_of(list(run.rows[end][:many]), score, end), looks[:many], (end, many))

    def test_each_kind_of_deed(self):
        self.check("ends a, b play { a asks n a sets m = n + 1 a -> b: k(m * 2) as x if b: x { b -> a: l(x) as y } else { "
                   "b -> a: m(x) as y } while a: y < 3 { a sets y = y + 1 a -> b: on(y) as z } a -> b: off(0) as z }", a=[3])
        self.check("ends a play { a asks n a asks m a sets n = m }", a=[3, MOST])
        self.assertEqual(looks_of([], read_score(TALK), "b"), [])
        self.assertEqual(looks_of([("while", "a", 0, "yes"), ("send", "a", "b", "more", 5)], read_score(TALK), "a"), [YES, MORE])
        self.assertEqual(looks_of([("get", "b", "a", "more", 5), ("get", "b", "a", "stop", 0)], read_score(TALK), "b"),
                         [GOT, STOPPED])

    def test_whiles_and_ifs_inside_of_each_other(self):
        text = ("ends a, b play { while a: n < 3 { a sets n = n + 1 a -> b: on(n) as n while b: m < n { b sets m = m + 1 "
                "if b: m == 2 { b -> a: two(m) as m } else { b -> a: other(m) as m } } b -> a: done(0) as z } "
                "a -> b: off(0) as n }")
        self.check(text)
        self.check("ends a play { while a: 1 { if a: n == 5 { a asks n } else { if a: n { a asks n } else { a sets n = 5 } } } }",
                   a=[0, 1, 5, 2])
        self.check("ends a play { while a: 1 { while a: 1 { a sets n = n + 1 } } }")

    def test_different_ways_with_the_same_deeds(self):
        # Clear for b: whatever a decides, b does and sees the same.
        self.check("ends a, b play { a asks n if a: n { a -> b: k(1) as x } else { a -> b: k(1) as x } b sets y = x }", a=[1])
        self.check("ends a, b play { a asks n if a: n { b sets x = 2 a asks m } else { b sets x = 2 } b asks y }", a=[0], b=[4])
        # Unclear for b: only later deeds, or their numbers, tell which looks they were.
        for number in (0, 1):
            for text in ("if a: n { b sets x = 1 b sets y = 2 } else { b sets x = 1 b sets z = 2 }",
                         "if a: n { b sets x = x + 1 } else { b sets x = x + 2 }",
                         "if a: n { a -> b: k(5) as x } else { a -> b: k(5) as y } b sets z = x + 2 * y",
                         "if a: n { b asks x } else { b asks y } if b: x { b asks x } else { b asks z }",
                         "if a: n { while b: 1 { b asks x } } else { while b: 1 { b asks x } }"):
                score = read_score("ends a, b play { a asks n " + text + " }")
                run = PlainRun(score, {"a": [number], "b": [3, 4]})
                looks = seen(score, plain_way(score, run.deeds), "b")
                self.assertEqual(looks_of(list(run.rows["b"]), score, "b"), looks, (number, text))

    def test_what_the_others_do_tells_it(self):
        # For b alone, both rows of looks would do.
        for decision in ("1", "0", "n", "n + 1", "n < 1", "n == 5"):
            self.check(f"ends a, b play {{ if a: {decision} {{ b sets x = 5 }} else {{ b sets x = 2 + 3 }} }}")
            self.check(f"ends a, b play {{ b asks m b -> a: k(m) as n if a: {decision} {{ b sets x = 5 }} else "
                       "{ b sets x = 2 + 3 } }", b=[5])
        # The number of the letter tells what a took.
        for text in ("if a: n == 5 { a -> b: k(n) as y } else { a -> b: k(n) as x }",
                     "if a: n == 5 { a -> b: k(n) as x } else { a -> b: k(n) as y }"):
            for number in (0, 1, 5, 7, MOST):
                self.check("ends a, b play { a asks n " + text + " }", a=[number])

    def test_only_looks_of_plain_runs(self):
        # For b alone, all three sets of a yes block would do; a answers one of them only.
        for condition in ("n == 12345", "n + 3 == 2", "n * 3 == 12345", "60000 < n", "n == 0 - 1", "n * n == 152399025",
                          "(1000 < n) * (n < 1002)", "n * 1103515245 + 12345 == 77", "(n < 7) + (n == 7) + (7 < n) == 1",
                          "n * n + n == 30 * (n == 5)", "n - 5 < 1", "2147483647 < n"):
            for inner, look in (("0", 2), ("n == n", 1), ("n + 1 == n", 2), ("n * 2 == 4294967295", 2), ("n < 0", 2),
                                (condition, 1), ("(" + condition + ") == 0", 2)):
                score = read_score("ends a, b play { a asks n if a: " + condition + " { if a: " + inner + " { b sets k = 3 + 4 } "
                                   "else { b sets k = 7 } } else { b sets k = 0 } }")
                expected = ("set", "k", ("number", 7) if look == 2 else ("+", ("number", 3), ("number", 4)))
                self.assertEqual(looks_of([("set", "b", "k", 7)], score, "b"), [expected], (condition, inner))
                self.assertEqual(looks_of([("set", "b", "k", 0)], score, "b"), [("set", "k", ZERO)])

    def test_answers_that_no_number_gives(self):
        for condition in ("n * 2 == 5", "n * n == 3", "n * n + n == 7", "n < n", "(n < 5) * (5 < n)", "n * (n + 1) * (n + 2) == 4",
                          "(n == 5) + (n == 6) == 2", "n * n + 1 == 0", "(n + 1) * (n - 1) - n * n + 1", "n * n * 65536 * 65536"):
            score = read_score("ends a, b play { a asks n if a: " + condition + " { b sets k = 3 + 4 } else { b sets k = 7 } }")
            self.assertEqual(looks_of([("set", "b", "k", 7)], score, "b"), [("set", "k", ("number", 7))], condition)

    def test_several_others(self):
        text = ("a asks n a -> c: v(n * 3) as p c asks q c -> d: v(p + q) as r d asks s if d: r * s == 1234567 { d -> c: yes(r - 1) as p } "
                "else { d -> c: no(0) as p } if c: p == 776 { b sets k = 7 } else { if c: p == 776 + 4 * (q == q + 1) { "
                "b sets k = 3 + 4 } else { b sets k = 0 } }")
        score = read_score("ends a, b, c, d play { " + text + " }")
        self.assertEqual(looks_of([("set", "b", "k", 7)], score, "b"), [("set", "k", ("number", 7))])
        # What b sent and got counts, too, and what is asked behind it need not be the same number.
        text = ("b asks m b -> a: v(m) as n a -> b: w(n + x) as k a asks x if a: n == 5 { a -> b: w(x) as y } else { a -> b: w(n) as k } "
                "if a: x == n { b sets z = 7 } else { b sets z = 3 + 4 }")
        score = read_score("ends a, b play { " + text + " }")
        for other in (5, 6, 0, MOST):
            run = PlainRun(score, {"a": [other], "b": [5]})
            looks = seen(score, plain_way(score, run.deeds), "b")
            self.assertEqual(looks_of(list(run.rows["b"]), score, "b"), looks, other)

    def test_whiles_of_the_others(self):
        head = "a asks n a sets m = 1 while a: n { a sets m = m * n a sets n = n - 1 } "
        for condition, look in (("m == 720", 7), ("m == 7", 0), ("m == 40320", 7), ("m == 362880", 7), ("m == 362881", 0), ("m", 7)):
            score = read_score("ends a, b play { " + head + "if a: " + condition + " { b sets k = 7 } else { b sets k = 3 + 4 } }")
            looks = looks_of([("set", "b", "k", 7)], score, "b")
            if look == 0:
                self.assertEqual(looks, [("set", "k", ("+", ("number", 3), ("number", 4)))], condition)
            score = read_score("ends a, b play { " + head + "if a: " + condition + " { b sets k = 7 } else { b sets k = 0 } }")
            if look == 7:
                self.assertEqual(looks_of([("set", "b", "k", 7)], score, "b"), [("set", "k", ("number", 7))])

    def test_all_inputs(self):
        """The answers, where all that matters of an input is how it compares with 5 and 9."""
        numbers = [0, 1, 5, 6, 9, 10]
        for seed in range(150):
            rng = random.Random(seed)
            score = Score((("a", "b", "c"), (), (("ask", "a", "x"), ("ask", "c", "x"), ("ask", "a", "y")) +
                           compared_block(rng, rng.choice([4, 8, 12]))))
            looks = {}
            for x, y, z in itertools.product(numbers, repeat=3):
                run = PlainRun(score, {"a": [x, y], "b": [], "c": [z]})
                found = seen(score, plain_way(score, run.deeds), "b")
                for many in range(len(found) + 1):
                    looks.setdefault(run.rows["b"][:many], []).append(found[:many])
            for row in looks:
                self.assertIn(looks_of(list(row), score, "b"), looks[row], seed)

    def test_very_hard_numbers(self):
        hard = "a asks n a asks m if a: n * m == 1234567 "
        one, two = ("set", "x", ("+", ("name", "x"), ONE)), ("set", "x", ("+", ("name", "x"), ("number", 2)))
        score = read_score("ends a, b play { " + hard + "{ b sets x = x + 1 } else { b sets x = x + 2 } }")
        self.assertEqual(looks_of([("set", "b", "x", 1)], score, "b"), [one])
        self.assertEqual(looks_of([("set", "b", "x", 2)], score, "b"), [two])
        # Behind different looks, the own numbers tell later which ones they were.
        score = read_score("ends a, b play { " + hard + "{ a -> b: k(7) as x } else { a -> b: k(7) as y } b sets z = x "
                           "if b: y { b asks x } else { b asks z } }")
        self.assertEqual(looks_of([("get", "b", "a", "k", 7), ("set", "b", "z", 7), ("if", "b", "no"), ("ask", "b", "z", 3)],
                                  score, "b")[0], ("get", "a", "k", "x"))
        # One of two rows of looks is as good as the other.
        score = read_score("ends a, b play { " + hard + "{ b sets x = 5 } else { if a: n * m == 7654321 { b sets x = 2 + 3 } else { } } }")
        self.assertIn(looks_of([("set", "b", "x", 5)], score, "b"),
                      ([("set", "x", ("number", 5))], [("set", "x", ("+", ("number", 2), ("number", 3)))]))

    def test_given_up(self):
        # To take a great number apart takes too long: so it is a row of looks that fits the own numbers, as this one.
        before = time.monotonic()
        small = "* (1 < n) * (n < m) * (m < 65536) "
        text = ("a asks n a asks m if a: (n * m == 61273273) " + small + "{ b sets x = 2 + 3 } else { if a: (n * m == 2147483647) " +
                small + "{ b sets x = 5 } else { b sets x = 4 } }")
        score = read_score("ends a, b play { " + text + " }")
        deeds = list(PlainRun(score, {"a": [1021, 60013], "b": []}).rows["b"])
        self.assertEqual(deeds, [("set", "b", "x", 5)])
        self.assertEqual(looks_of(deeds, score, "b"), [("set", "x", ("+", ("number", 2), ("number", 3)))])
        self.assertLess(time.monotonic() - before, 60)

    def test_own_numbers_of_very_many_rows(self):
        before = time.monotonic()
        text = " ".join(f"a asks n if a: n {{ a -> b: k({at}) as x{at} }} else {{ a -> b: k({at}) as y{at} }}" for at in range(30))
        score = read_score("ends a, b play { " + text + " b sets z = 2 * x7 + x9 + y11 + x12 }")
        deeds = [("get", "b", "a", "k", at) for at in range(30)] + [("set", "b", "z", 23)]
        looks = looks_of(deeds, score, "b")
        self.assertEqual([looks[at][3] for at in (7, 9, 11, 12)], ["x7", "x9", "x11", "y12"])
        self.assertLess(time.monotonic() - before, 20)

    def test_very_many_rows_of_looks(self):
        before = time.monotonic()
        score = read_score("ends a, b play { a asks n " + "if a: n { b sets x = 3 } else { b sets x = 1 + 2 } " * 45 + "}")
        looks = looks_of([("set", "b", "x", 3)] * 45, score, "b")
        self.assertIn(looks, ([("set", "x", ("number", 3))] * 45, [("set", "x", ("+", ONE, ("number", 2)))] * 45))
        score = read_score("ends a, b play { " + "a asks n a sets m = m * 3 + n " * 24 + "if a: m == 4000000000 { b sets x = 5 } else { "
                           "if a: m == 4000000001 { b sets x = 2 + 3 } else { } } }")
        self.assertEqual(len(looks_of([("set", "b", "x", 5)], score, "b")), 1)
        self.assertLess(time.monotonic() - before, 5)

    def test_clear_scores(self):
        for seed in range(80):
            rng = random.Random(seed)
            tree, inputs = talk(seed)
            score = Score(tree)
            run = PlainRun(score, inputs)
            way = plain_way(score, run.deeds)
            for end in score.ends:
                looks = seen(score, way, end)
                for many in {0, 1, len(looks) // 2, rng.randint(0, len(looks)), len(looks)}:
                    self.assertEqual(looks_of(list(run.rows[end][:many]), score, end), looks[:many], (seed, end, many))

    def test_scores_that_need_not_be_clear(self):
        for seed in range(300):
            score = random_score(seed, most_ends=3, many=8)
            for end in score.ends:
                if any(statement[0] == "ask" and statement[1] != end for statement in score.statements):
                    continue
                # Nothing is asked by the others: so the deeds tell the whole run.
                run = PlainRun(score, {other: [seed & 3, 1] for other in score.ends})
                looks = seen(score, plain_way(score, run.deeds), end)
                for many in (len(looks) // 2, len(looks)):
                    self.assertEqual(looks_of(list(run.rows[end][:many]), score, end), looks[:many], (seed, end))

    def test_some_inputs(self):
        for seed in range(120):
            score = random_score(seed, most_ends=2, many=6)
            rows = {}
            for inputs in some_inputs(score, (0, 1), 2):
                run = PlainRun(score, inputs)
                way = plain_way(score, run.deeds)
                for end in score.ends:
                    rows.setdefault((end, run.rows[end]), []).append(seen(score, way, end))
            for (end, row), looks in rows.items():
                self.assertIn(looks_of(list(row), score, end), looks, (seed, end))

    def test_long_rows(self):
        before = time.monotonic()
        text = "while a: 1 { while a: 1 { while a: 1 { " + "a -> b: k(n) as n a sets n = n + 1 " * 10 + "} } }"
        score = read_score("ends a, b play { " + text + " }")
        run = PlainRun(score, {"a": [], "b": []})
        for end in score.ends:
            self.assertEqual(len(looks_of(list(run.rows[end]), score, end)), len(run.rows[end]))
        # Each row of looks is one of a plain run.
        score = read_score("ends a, b play { " + "a asks n a asks m if a: n * m == 1234567 { b sets x = 3 } else { b sets x = 1 + 2 } "
                           * 12 + "}")
        looks = looks_of([("set", "b", "x", 3)] * 12, score, "b")
        self.assertEqual([look[:2] for look in looks], [("set", "x")] * 12)
        self.assertLess(time.monotonic() - before, 5)


class Kept(unittest.TestCase):
    def test_what_was_given_and_returned(self):
        score = read_score(TALK)
        account = {"a": [YES, MORE, LESS], "b": [GOT]}
        kept = copy.deepcopy(account)
        for function in (explanation, part_explanation):
            first = function(score, account)
            expected = list(first)
            self.assertEqual(account, kept)
            first.clear()
            self.assertEqual(function(score, account), expected)
        deeds = [("while", "a", 0, "yes"), ("send", "a", "b", "more", 5)]
        looks = looks_of(deeds, score, "a")
        looks.clear()
        self.assertEqual(deeds, [("while", "a", 0, "yes"), ("send", "a", "b", "more", 5)])
        self.assertEqual(looks_of(deeds, score, "a"), [YES, MORE])


if __name__ == "__main__":
    unittest.main()
