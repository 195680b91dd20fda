"""Point 2: the errors, and that arguments stay as they were."""

import copy
import unittest

import helpers
from onescore import errors
from onescore.checks import check_tree
from onescore.flat import Score
from onescore.reader import read_tree, tokens

WITHOUT_FIELDS = ("InvalidInputs", "UnknownEnd", "NoSuchLetter", "NoSuchPlay", "StillPlaying", "TooLarge")
WITH_FIELDS = {"SyntaxProblem": ("start",), "InvalidScore": ("rule",), "Unclear": ("end", "first", "second")}


class Errors(unittest.TestCase):
    def test_base(self):
        self.assertEqual(errors.ScoreError.__bases__, (ValueError,))

    def test_every_error_derives_directly_from_score_error(self):
        for name in WITHOUT_FIELDS + tuple(WITH_FIELDS):
            with self.subTest(name):
                self.assertEqual(getattr(errors, name).__bases__, (errors.ScoreError,))

    def test_errors_without_fields(self):
        for name in WITHOUT_FIELDS:
            with self.subTest(name):
                self.assertEqual(vars(getattr(errors, name)()), {})
                with self.assertRaises(errors.ScoreError):
                    raise getattr(errors, name)()

    def test_fields_in_order(self):
        values = {"start": 7, "rule": "large", "end": "a", "first": [(0, "")], "second": []}
        for name, fields in WITH_FIELDS.items():
            with self.subTest(name):
                error = getattr(errors, name)(*[values[field] for field in fields])
                self.assertEqual(vars(error), {field: values[field] for field in fields})
                self.assertIsInstance(str(error), str)

    def test_unclear_does_not_keep_the_lists_that_it_was_passed(self):
        first, second = [(0, "")], [(0, "yes")]
        error = errors.Unclear("a", first, second)
        first.append((1, ""))
        second.clear()
        self.assertEqual((error.first, error.second), ([(0, "")], [(0, "yes")]))
        self.assertFalse(any(part is first or part is second for part in error.args))


class Arguments(unittest.TestCase):
    TEXT = "ends a, b part p(x, y) { x -> y: k(n) as m } play { call p(b, a) if a: 1 { a asks n } else { } }"

    def test_a_tree_stays_as_it_was(self):
        tree = read_tree(self.TEXT)
        before = copy.deepcopy(tree)
        check_tree(tree)
        Score(tree)
        self.assertEqual(tree, before)

    def test_the_list_of_tokens_is_new(self):
        first = tokens(self.TEXT)
        self.assertIsInstance(first, list)
        whole = list(first)
        first.clear()
        self.assertEqual(tokens(self.TEXT), whole)

    def test_a_call_that_fails_changes_nothing(self):
        tree = read_tree("ends a, b play { a -> a: k(1) as n }")
        before = copy.deepcopy(tree)
        for _ in range(2):
            with self.assertRaises(errors.InvalidScore):
                Score(tree)
        self.assertEqual(tree, before)
        self.assertEqual(helpers.broken_rule(tree), "self")


if __name__ == "__main__":
    unittest.main()
