"""Numbers that nobody knows: nodes say what their values say, and those that are always the same are one node."""

import random
import unittest

from helpers import MOST, node_holds, node_number, random_terms
from onescore.terms import FALSE, TRUE, Terms, inverse


class Numbers(unittest.TestCase):
    def setUp(self):
        self.terms = Terms()
        self.n, self.m, self.k = [self.terms.unknown() for _ in range(3)]

    def do(self, sign, left, right):
        left, right = [self.terms.number(part[0]) if isinstance(part, tuple) else part for part in (left, right)]
        return self.terms.joined(sign, left, right)

    def test_known_numbers(self):
        for sign, left, right, expected in (("+", MOST, 2, 1), ("-", 1, 2, MOST), ("*", 1 << 31, 2, 0), ("<", 1, 2, 1),
                                            ("<", 2, 2, 0), ("==", 2, 2, 1), ("==", 2, 3, 0), ("*", 3, 5, 15)):
            node = self.do(sign, (left,), (right,))
            self.assertEqual(self.terms.known_number(node), expected)
            self.assertEqual(node, self.terms.number(expected))
        self.assertIsNone(self.terms.known_number(self.n))
        self.assertIsNone(self.terms.known_number(self.do("+", self.n, (1,))))

    def test_inverses(self):
        for odd in (1, 3, 5, 7, 12345, MOST, 2147483649, 4294967291):
            self.assertEqual(inverse(odd) * odd & MOST, 1)

    def test_what_is_always_the_same_is_one_node(self):
        n, m, do = self.n, self.m, self.do
        self.assertNotEqual(n, m)
        self.assertEqual(do("+", n, m), do("+", m, n))
        self.assertEqual(do("*", n, m), do("*", m, n))
        self.assertEqual(do("-", do("+", n, (5,)), (5,)), n)
        self.assertEqual(do("*", do("+", n, (1,)), do("-", n, (1,))), do("-", do("*", n, n), (1,)))
        self.assertEqual(do("-", n, n), self.terms.number(0))
        self.assertEqual(do("*", n, (0,)), self.terms.number(0))
        self.assertEqual(do("+", do("+", n, n), n), do("*", (3,), n))
        self.assertEqual(do("*", do("*", n, (65536,)), (65536,)), self.terms.number(0))
        is_five = do("==", n, (5,))
        self.assertEqual(do("*", is_five, is_five), is_five)
        self.assertEqual(do("==", is_five, (1,)), is_five)
        self.assertEqual(do("==", is_five, (0,)), do("-", (1,), is_five))
        self.assertNotEqual(do("*", n, n), n)

    def test_same(self):
        n, m, do, same = self.n, self.m, self.do, self.terms.same
        five = self.terms.number(5)
        self.assertEqual(same(n, n), TRUE)
        self.assertEqual(same(do("+", n, (1,)), n), FALSE)
        self.assertEqual(same(do("*", (2,), n), five), FALSE)
        self.assertEqual(same(do("*", (4,), do("*", n, m)), do("+", (2,), do("*", (8,), n))), FALSE)
        self.assertNotIn(same(do("*", (2,), n), self.terms.number(6)), (TRUE, FALSE, same(n, self.terms.number(3))))
        self.assertEqual(same(do("*", (3,), n), self.terms.number(15)), same(n, five))
        self.assertEqual(same(do("+", n, (3,)), do("+", m, (5,))), same(m, do("-", n, (2,))))
        self.assertEqual(same(do("<", n, m), five), FALSE)
        both = do("*", do("==", n, (5,)), do("<", m, n))
        self.assertEqual(same(both, self.terms.number(1)), self.terms.both(same(n, five), self.terms.less(m, n)))
        self.assertEqual(same(both, self.terms.number(0)), -same(both, self.terms.number(1)))
        self.assertEqual(same(both, five), FALSE)
        self.assertEqual(same(do("*", (6,), both), self.terms.number(6)), same(both, self.terms.number(1)))
        self.assertEqual(same(do("*", (6,), both), self.terms.number(2)), FALSE)

    def test_less(self):
        n, m, less, number = self.n, self.m, self.terms.less, self.terms.number
        for left, right, expected in ((n, n, FALSE), (n, number(0), FALSE), (number(MOST), n, FALSE),
                                      (number(0), n, -self.terms.same(n, number(0))),
                                      (n, number(1), self.terms.same(n, number(0))),
                                      (n, number(MOST), -self.terms.same(n, number(MOST))),
                                      (number(3), number(4), TRUE), (number(4), number(4), FALSE)):
            self.assertEqual(less(left, right), expected)
        self.assertNotEqual(less(n, m), -less(m, n))
        self.assertEqual(less(n, m), less(n, m))

    def test_conditions(self):
        both, either, fork = self.terms.both, self.terms.either, self.terms.fork
        a, b, c = [self.terms.same(node, self.terms.number(7)) for node in (self.n, self.m, self.k)]
        self.assertEqual([both(a, TRUE), both(TRUE, a), both(a, a), both(a, -a), both(FALSE, a), both(a, FALSE)],
                         [a, a, a, FALSE, FALSE, FALSE])
        self.assertEqual([either(a, FALSE), either(a, a), either(a, -a), either(TRUE, a)], [a, a, TRUE, TRUE])
        self.assertEqual(both(a, b), both(b, a))
        self.assertEqual(either(both(a, b), both(a, -b)), a)
        self.assertEqual(either(both(both(a, b), -c), both(c, both(a, b))), both(a, b))
        self.assertEqual(fork(both(a, b), both(-b, a)), (a, b))
        self.assertEqual(fork(-b, b), (TRUE, -b))
        self.assertEqual(fork(both(a, b), both(-a, -b))[0], None)
        self.assertEqual(self.terms.parts_of(both(a, -b)), (-b, a))
        self.assertEqual(self.terms.parts_of(-both(a, b)), ())
        self.assertEqual(self.terms.parts_of(a), ())
        self.assertEqual(self.terms.number_told(a), {self.n: 7})
        for condition in (-a, both(a, b), TRUE, self.terms.less(self.n, self.m), self.terms.same(self.n, self.m)):
            self.assertEqual(self.terms.number_told(condition), {})

    def test_choices(self):
        choice, number = self.terms.choice, self.terms.number
        a = self.terms.less(self.n, self.m)
        self.assertEqual([choice(TRUE, self.n, self.m), choice(FALSE, self.n, self.m), choice(a, self.n, self.n)],
                         [self.n, self.m, self.n])
        self.assertEqual(choice(-a, self.n, self.m), choice(a, self.m, self.n))
        self.assertEqual(self.terms.same(choice(a, number(5), number(9)), number(5)), a)
        self.assertEqual(self.terms.same(choice(a, number(5), number(9)), number(9)), -a)
        self.assertEqual(self.terms.same(choice(a, number(5), number(9)), number(7)), FALSE)

    def test_what_is_known(self):
        n, m, do = self.n, self.m, self.do
        tree = do("+", do("*", n, m), do("*", (2,), do("==", m, (7,))))
        is_seven = self.terms.same(m, self.terms.number(7))
        self.assertEqual(self.terms.told(tree, {}), tree)
        self.assertEqual(self.terms.told(tree, {self.k: 3}), tree)
        self.assertEqual(self.terms.told(tree, {n: 3}), do("+", do("*", (3,), m), do("*", (2,), do("==", m, (7,)))))
        self.assertEqual(self.terms.told(tree, {n: 0, is_seven: 1}), self.terms.number(2))
        self.assertEqual(self.terms.told(tree, {m: 7, is_seven: 1}), do("+", do("*", (7,), n), (2,)))
        self.assertEqual(self.terms.told(tree, {m: 8, is_seven: 0}), do("*", (8,), n))


class Drawn(unittest.TestCase):
    def test_values(self):
        for seed in range(150):
            rng = random.Random(seed)
            terms = Terms()
            unknowns = [terms.unknown() for _ in range(rng.randint(1, 4))]
            found = random_terms(rng, terms, unknowns, 25)
            for _ in range(4):
                given = {node: rng.choice([0, 1, 2, 7, 1 << 31, MOST, rng.getrandbits(32)]) for node in unknowns}
                numbers = {}
                for node, function in found:
                    self.assertEqual(node_number(terms, node, given), function(given), seed)
                    numbers.setdefault(node, set()).add(function(given))
                self.assertTrue(all(len(values) == 1 for values in numbers.values()))

    def test_conditions(self):
        for seed in range(150):
            rng = random.Random(seed)
            terms = Terms()
            unknowns = [terms.unknown() for _ in range(3)]
            found = [(terms.same(left, right), lambda given, first=first, second=second: first(given) == second(given))
                     for (left, first), (right, second) in
                     [rng.choices(random_terms(rng, terms, unknowns, 4), k=2) for _ in range(6)]]
            for _ in range(20):
                (left, first), (right, second) = rng.choice(found), rng.choice(found)
                turned = rng.choice([1, -1])
                if rng.random() < 0.5:
                    node = terms.both(left, turned * right)
                    function = lambda given, f=first, s=second, t=turned: f(given) and s(given) == (t == 1)
                else:
                    node = terms.either(left, turned * right)
                    function = lambda given, f=first, s=second, t=turned: f(given) or s(given) == (t == 1)
                found.append((node, function))
            for _ in range(4):
                given = {node: rng.choice([0, 1, 2, 3]) for node in unknowns}
                for node, function in found:
                    self.assertEqual(node_holds(terms, node, given), function(given), seed)

    def test_very_long_sums_and_products(self):
        terms = Terms()
        unknowns = [terms.unknown() for _ in range(80)]
        given = {node: at * at * 77777777 + 3 & MOST for at, node in enumerate(unknowns)}
        total, product, both = terms.number(0), terms.number(1), terms.number(1)
        expected, many, mixed = 0, 1, 1
        for node in unknowns:
            total, expected = terms.total(total, node), expected + given[node] & MOST
            product, many = terms.product(product, node), many * given[node] & MOST
            both, mixed = terms.product(both, terms.minus(total, node)), mixed * (expected - given[node]) & MOST
            self.assertEqual([node_number(terms, part, given) for part in (total, product, both)], [expected, many, mixed])
        self.assertLess(max(len(form) for form in terms.forms if form is not None), 100)
        self.assertEqual(terms.same(total, total), TRUE)
        self.assertEqual(node_holds(terms, terms.same(total, product), given), expected == many)


if __name__ == "__main__":
    unittest.main()
