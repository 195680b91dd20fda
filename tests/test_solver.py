"""The solver finds out which literals can hold, and values with which they do."""

import itertools
import random
import unittest

import helpers
from onescore.solver import Solver

MUCH = 10 ** 9


def holding(many, clauses):
    """All lists of values, from variable 1 on, for which clauses hold."""
    return [values for values in itertools.product([False, True], repeat=many)
            if all(any(values[(literal >> 1) - 1] != (literal & 1 == 1) for literal in clause) for clause in clauses)]


def drawn_clauses(rng, many, much):
    """Random clauses of up to three different variables."""
    return [[2 * variable + rng.randint(0, 1) for variable in rng.sample(range(1, many + 1), rng.randint(1, min(3, many)))]
            for _ in range(much)]


def solver_with(many, clauses):
    solver = Solver()
    for _ in range(many):
        solver.new(0)
    for clause in clauses:
        solver.demand(clause)
    return solver


def pigeons(many):
    """Clauses that put many pigeons into one hole less, without two in one hole, if the last variable is true."""
    places = {(pigeon, hole): 2 * (1 + pigeon * (many - 1) + hole) for pigeon in range(many) for hole in range(many - 1)}
    goal = 2 * (len(places) + 1)
    clauses = [[goal ^ 1] + [places[(pigeon, hole)] for hole in range(many - 1)] for pigeon in range(many)]
    clauses += [[places[(one, hole)] ^ 1, places[(other, hole)] ^ 1] for hole in range(many - 1)
                for one, other in itertools.combinations(range(many), 2)]
    return len(places) + 1, clauses, goal


class Solved(unittest.TestCase):
    def check_values(self, solver, clauses, goal):
        self.assertGreater(solver.truth[goal], 0)
        for clause in clauses:
            self.assertTrue(any(solver.truth[literal] > 0 for literal in clause))
        for variable in range(1, len(solver.levels)):
            self.assertEqual(sorted(solver.truth[2 * variable:2 * variable + 2]), [-1, 1])

    def test_few_clauses(self):
        solver = solver_with(3, [[2, 4], [3, 4], [5, 6]])
        self.assertIs(solver.solve(5, MUCH), False)
        self.assertIs(solver.solve(6, MUCH), True)
        self.check_values(solver, [[2, 4], [3, 4], [5, 6]], 6)
        solver.back_to(0)
        self.assertIs(solver.solve(7, MUCH), False)
        self.assertIs(solver.solve(2, MUCH), True)
        solver.back_to(0)
        self.assertIs(solver.solve(3, MUCH), True)

    def test_drawn_clauses(self):
        kinds = {True: 0, False: 0}
        for seed in range(600):
            rng = random.Random(seed)
            many = rng.randint(1, 9)
            clauses = drawn_clauses(rng, many, rng.randint(0, 4 * many))
            solutions = holding(many, clauses)
            if not solutions:
                continue
            solver = solver_with(many, clauses)
            for _ in range(6):
                goal = rng.randrange(2, 2 * many + 2)
                expected = any(values[(goal >> 1) - 1] != (goal & 1 == 1) for values in solutions)
                kinds[expected] += 1
                self.assertIs(solver.solve(goal, MUCH), expected, seed)
                if expected:
                    self.check_values(solver, clauses, goal)
                solver.back_to(0)
        self.assertGreater(min(kinds.values()), 300)

    def test_clauses_in_turn(self):
        for seed in range(150):
            rng = random.Random(seed)
            many = rng.randint(2, 8)
            clauses, solver = [], solver_with(many, [])
            while True:
                more = drawn_clauses(rng, many, 1)
                if not holding(many, clauses + more):
                    break
                clauses += more
                solver.demand(more[0])
                goal = rng.randrange(2, 2 * many + 2)
                expected = bool(holding(many, clauses + [[goal]]))
                self.assertIs(solver.solve(goal, MUCH), expected, seed)
                if expected:
                    self.check_values(solver, clauses, goal)
                solver.back_to(0)

    def test_what_cannot_be_seen_at_once(self):
        many, clauses, goal = pigeons(6)
        solver = solver_with(many, clauses)
        self.assertIs(solver.solve(goal, MUCH), False)
        self.assertIs(solver.solve(goal ^ 1, MUCH), True)
        self.check_values(solver, clauses, goal ^ 1)

    def test_giving_up(self):
        many, clauses, goal = pigeons(7)
        solver = solver_with(many, clauses)
        for most in (0, 10, 500):
            self.assertIsNone(solver.solve(goal, most))
            self.assertEqual(solver.starts, [])
        before = solver.looked
        self.assertIs(solver.solve(goal ^ 1, MUCH), True)
        solver.back_to(0)
        self.assertIs(solver.solve(goal, MUCH), False)
        self.assertGreater(solver.looked - before, 500)


if __name__ == "__main__":
    unittest.main()
