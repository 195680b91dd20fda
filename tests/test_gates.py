"""Conditions on numbers that nobody knows: whether they can hold, and for which numbers."""

import random
import unittest

from helpers import MOST, node_holds, node_number, random_terms
from onescore.gates import Gates
from onescore.terms import FALSE, TRUE, Terms

MUCH = 10 ** 9


class Held(unittest.TestCase):
    def setUp(self):
        self.terms = Terms()
        self.gates = Gates(self.terms, MUCH, MUCH)
        self.n, self.m = self.terms.unknown(), self.terms.unknown()

    def do(self, sign, left, right):
        left, right = [self.terms.number(part[0]) if isinstance(part, tuple) else part for part in (left, right)]
        return self.terms.joined(sign, left, right)

    def condition(self, *trees):
        """The condition that none of some numbers is 0."""
        found = TRUE
        for tree in trees:
            found = self.terms.both(found, -self.terms.same(tree, self.terms.number(0)))
        return found

    def check(self, expected, *trees):
        condition = self.condition(*trees)
        self.assertIs(self.gates.can_hold(condition, MUCH), expected)
        if expected:
            given = {node: self.gates.number(node) for node in (self.n, self.m)}
            self.assertTrue(node_holds(self.terms, condition, given), given)
            return given[self.n], given[self.m]
        # That it cannot hold is remembered.
        before = self.gates.effort
        self.assertIs(self.gates.can_hold(condition, 10), False)
        self.assertLess(before - self.gates.effort, 100)
        return None

    def test_numbers_with_one_solution(self):
        n, m, do = self.n, self.m, self.do
        self.assertEqual(self.check(True, do("==", n, (12345,)), do("==", m, (MOST,))), (12345, MOST))
        self.assertEqual(self.check(True, do("==", do("+", do("*", n, (7,)), (5,)), (12,)))[0], 1)
        self.assertEqual(self.check(True, do("<", (1000,), n), do("<", n, (1002,)))[0], 1001)
        self.assertEqual(self.check(True, do("==", do("+", n, m), (10,)), do("==", do("-", n, m), (4,)),
                                    do("<", n, (100,))), (7, 3))
        self.assertEqual(self.check(True, do("==", do("*", n, n), (49,)), do("<", n, (100,)))[0], 7)
        self.assertEqual(self.check(True, do("==", do("*", n, (4,)), (4,)), do("<", (1 << 30,), n), do("<", n, (1 << 31,)))[0],
                         (1 << 30) + 1)
        self.assertEqual(self.check(True, do("<", (MOST - 1,), n))[0], MOST)
        self.assertEqual(self.check(True, do("*", n, (1 << 31,)), do("<", n, (2,)))[0], 1)

    def test_numbers_without_solution(self):
        n, m, do = self.n, self.m, self.do
        self.check(False, do("==", do("*", n, n), (3,)))
        self.check(False, do("<", n, m), do("<", m, n))
        self.check(False, do("<", n, (7,)), do("<", (5,), n), do("==", do("*", n, (3,)), (21,)))
        self.check(False, do("==", do("*", n, do("+", n, (1,))), (7,)))
        self.check(False, do("*", do("*", n, (65536,)), (65536,)))
        self.check(False, do("==", do("+", n, m), (5,)), do("==", do("-", n, m), (4,)))
        self.assertIs(self.gates.can_hold(FALSE, MUCH), False)
        self.assertIs(self.gates.can_hold(TRUE, MUCH), True)

    def test_what_has_nothing_to_do_with_it(self):
        self.assertIs(self.gates.can_hold(self.terms.same(self.n, self.terms.number(6)), MUCH), True)
        self.assertEqual([self.gates.number(self.n), self.gates.number(self.m)], [6, 0])
        other = self.terms.unknown()
        self.assertEqual(self.gates.number(other), 0)
        self.assertIs(self.gates.can_hold(TRUE, MUCH), True)

    def test_choices(self):
        n, m, do = self.n, self.m, self.do
        chosen = self.terms.choice(self.terms.less(n, m), do("+", n, (100,)), do("*", m, (3,)))
        self.assertEqual(self.check(True, do("==", chosen, (105,)), do("<", n, m), do("<", m, (7,))), (5, 6))
        # The other number is 3 * m, where n is not less than m.
        self.assertEqual(self.check(True, do("==", chosen, (15,)), do("<", n, (6,)), do("<", m, (10,))), (5, 5))
        self.check(False, do("==", chosen, (16,)), do("<", n, (6,)), do("<", m, (10,)))


class Drawn(unittest.TestCase):
    def pinned(self, terms, given):
        """The condition that all numbers are these."""
        found = TRUE
        for node, number in given.items():
            found = terms.both(found, terms.same(node, terms.number(number)))
        return found

    def test_given_numbers(self):
        for seed in range(25):
            rng = random.Random(seed)
            terms = Terms()
            gates = Gates(terms, MUCH, MUCH)
            unknowns = [terms.unknown() for _ in range(rng.randint(1, 3))]
            found = random_terms(rng, terms, unknowns, 12)[len(unknowns):]
            for _ in range(3):
                given = {node: rng.choice([0, 1, 2, 7, 1 << 31, MOST, rng.getrandbits(32)]) for node in unknowns}
                pinned = self.pinned(terms, given)
                for node, function in rng.choices(found, k=3):
                    number = rng.choice([function(given), function(given) ^ 1 << rng.randrange(32)])
                    condition = terms.both(pinned, terms.same(node, terms.number(number)))
                    self.assertIs(gates.can_hold(condition, MUCH), number == function(given), seed)

    def test_numbers_that_are_found(self):
        kinds = {True: 0, False: 0}
        for seed in range(40):
            rng = random.Random(seed)
            terms = Terms()
            gates = Gates(terms, MUCH, MUCH)
            unknowns = [terms.unknown() for _ in range(2)]
            found = random_terms(rng, terms, unknowns, 6)
            small = TRUE
            for node in unknowns:
                small = terms.both(small, terms.less(node, terms.number(6)))
            for _ in range(5):
                (left, first), (right, second) = rng.choice(found), rng.choice(found)
                turned = rng.choice([1, 1, -1])
                condition = terms.both(small, turned * terms.same(left, right))
                expected = any((first(given) == second(given)) == (turned == 1) for given in
                               [dict(zip(unknowns, (n, m))) for n in range(6) for m in range(6)])
                kinds[expected] += 1
                self.assertIs(gates.can_hold(condition, MUCH), expected, seed)
                if expected:
                    given = {node: gates.number(node) for node in unknowns}
                    self.assertTrue(max(given.values()) < 6 and (first(given) == second(given)) == (turned == 1), seed)
                    self.assertEqual(node_number(terms, left, given), first(given))
        self.assertGreater(min(kinds.values()), 20)


class Limits(unittest.TestCase):
    def hard(self, terms):
        """A condition that takes some work: the product of two numbers that are not great."""
        n, m = terms.unknown(), terms.unknown()
        condition = terms.same(terms.product(n, m), terms.number(101 * 103))
        for node in (n, m):
            condition = terms.both(condition, terms.both(terms.less(terms.number(1), node), terms.less(node, terms.number(1000))))
        return condition

    def test_too_much_work(self):
        terms = Terms()
        condition = self.hard(terms)
        gates = Gates(terms, MUCH, MUCH)
        self.assertIsNone(gates.can_hold(condition, 1000))
        self.assertIs(gates.can_hold(condition, MUCH), True)
        gates = Gates(terms, MUCH, 1000)
        self.assertIsNone(gates.can_hold(condition, MUCH))
        self.assertLess(gates.effort, 0)
        self.assertIsNone(gates.can_hold(condition, MUCH))

    def test_too_many_variables(self):
        terms = Terms()
        condition = self.hard(terms)
        gates = Gates(terms, 500, MUCH)
        self.assertIsNone(gates.can_hold(condition, MUCH))
        self.assertIsNone(gates.can_hold(condition, MUCH))
        gates.most_variables = 5000
        self.assertIs(gates.can_hold(condition, MUCH), True)


if __name__ == "__main__":
    unittest.main()
