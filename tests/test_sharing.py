"""Point 2: nothing is shared between objects, arguments and results, over all that the program has."""

import copy
import unittest

from helpers import ZERO
from onescore import (accounts, checks, clear, code, exchange, explore, flat, hall, judge, listing, machine, meaning, mend,
                      numbers, order, prices, printer, reader, runner, saving, tables, watch, ways, world)
from onescore.errors import ScoreError, Unclear

TEXT = ("ends a, b play { a asks n while a: n { a -> b: more(n) as k a sets n = n - 1 } a -> b: stop(0) as k "
        "b -> a: back(k + 1) as m }")
UNCLEAR = "ends a, b play { a asks n if a: n { b asks x } else { a asks n } }"
APART = "ends a, b play { while a: 1 { a -> b: k(1) as x a asks n b asks n } }"
INPUTS = {"a": [2, 7], "b": [1]}


def score():
    return flat.read_score(TEXT)


def unclear():
    return flat.read_score(UNCLEAR)


def inputs():
    return copy.deepcopy(INPUTS)


def run():
    return meaning.PlainRun(score(), inputs())


def made_code():
    return code.code_of(tables.end_tables(score())["a"])


def made_account():
    row = run().rows
    return {"a": accounts.looks_of(list(row["a"][:4]), score(), "a"), "b": accounts.looks_of(list(row["b"][:1]), score(), "b")}


def made_world():
    one = world.World(score(), inputs())
    for name, *arguments in (("work", "a", 8), ("post", "a"), ("double", 1), ("hand_over", 1), ("hand_over", 0), ("work", "b", 1),
                             ("flush", "b"), ("post", "b"), ("hand_over", 1), ("checkpoint", "a"), ("work", "a", 3)):
        getattr(one, name)(*arguments)
    return one


# Functions with makers of their arguments: each case makes all of them anew.
CASES = [
    (reader.tokens, lambda: (TEXT,)), (reader.read_tree, lambda: (TEXT,)),
    (printer.print_tree, lambda: (reader.read_tree(TEXT),)), (printer.print_value, lambda: (ZERO,)),
    (checks.check_tree, lambda: (reader.read_tree(TEXT),)), (flat.read_score, lambda: (TEXT,)),
    (flat.Score, lambda: (reader.read_tree(TEXT),)), (ways.is_way, lambda: (score(), [(0, ""), (1, "yes"), (2, "")])),
    (ways.place, lambda: (score(), [(0, ""), (1, "no")])), (ways.seen, lambda: (score(), [(0, ""), (1, "no")], "a")),
    (ways.concerns, lambda: (score(), 0, "a")), (ways.agree, lambda: (score(), "b", 2, 4)),
    (clear.rest, lambda: (score(), "b", [0])), (clear.rest, lambda: (score(), "a", [2, 0])),
    (clear.behind, lambda: (score(), "b", [0, 1, 2, 3, 4], ("get", "a", "more", "k"))),
    (clear.witness, lambda: (score(),)), (clear.witness, lambda: (unclear(),)),
    (clear.is_witness, lambda: (unclear(), "b", [(0, ""), (1, "yes")], [(0, ""), (1, "no"), (3, "")])),
    (tables.paper, lambda: (score(),)), (tables.paper, lambda: (unclear(),)), (tables.end_tables, lambda: (score(),)),
    (tables.least_table, lambda: (tables.end_tables(score())["a"],)),
    (tables.alike, lambda: (tables.end_tables(score())["a"], 0, 1)),
    (judge.judge, lambda: (score(), tables.paper(score()))), (judge.judge, lambda: (score(), {})),
    (numbers.number_of, lambda: (("+", ("name", "x"), ZERO), {"x": 4})),
    (meaning.PlainRun, lambda: (score(), inputs())), (meaning.PlainRun, lambda: (score(), {"a": []})),
    (meaning.is_even, lambda: (run(), (2, 0))), (meaning.even_cuts, lambda: (run(),)),
    (runner.Runner, lambda: (("a", "b"), "a", tables.end_tables(score())["a"], [1, 2])),
    (world.World, lambda: (score(), inputs())), (world.World, lambda: (unclear(), inputs())),
    (explore.possible_cuts, lambda: (score(), inputs())), (explore.possible_cuts, lambda: (unclear(), inputs())),
    (mend.mended, lambda: (reader.read_tree(TEXT),)), (mend.mended, lambda: (reader.read_tree(UNCLEAR),)),
    (watch.Watcher, lambda: (score(), "a")),
    (prices.least_price, lambda: (score(),)), (prices.greatest_price, lambda: (score(),)),
    (code.code_of, lambda: (tables.end_tables(score())["a"],)), (code.is_sound, lambda: (("a", "b"), made_code())),
    (code.is_sound, lambda: (("a", "c"), made_code())), (machine.Machine, lambda: ("a", made_code(), [2, 7])),
    (hall.Hall, lambda: (("x", "y"),)),
    (accounts.explanation, lambda: (score(), {"a": [("ask", "n")], "b": []})),
    (accounts.explanation, lambda: (score(), made_account())), (accounts.part_explanation, lambda: (score(), made_account())),
    (accounts.part_explanation, lambda: (score(), {"a": [], "b": [("ask", "n")]})),
    (accounts.part_explanation, lambda: (score(), {"a": []})),
    (accounts.looks_of, lambda: (list(run().rows["a"]), score(), "a")),
    (accounts.looks_of, lambda: ([("ask", "b", "x", 1)], unclear(), "b")), (accounts.looks_of, lambda: ([], score(), "b")),
    (order.clocks, lambda: (run(),)), (order.comes_before, lambda: (run(), 0, 4)), (order.apart, lambda: (run(), 4, 5)),
    (order.rounds, lambda: (run(),)), (saving.save_world, lambda: (made_world(),)),
    (saving.open_world, lambda: (score(), inputs(), saving.save_world(made_world()))),
    (saving.open_world, lambda: (score(), {"a": []}, saving.save_world(made_world()))),
    (saving.lasting_cut, lambda: (made_world(),)), (exchange.may_exchange, lambda: (reader.read_tree(APART), (0, 0, 1))),
    (exchange.exchanged, lambda: (reader.read_tree(APART), (0, 0, 1))),
    (exchange.exchanged, lambda: (reader.read_tree(APART), (0, 0, 0))), (listing.write_code, lambda: (made_code(),)),
    (listing.read_code, lambda: (listing.write_code(made_code()),)), (listing.read_code, lambda: ("stop\nhalt\n",)),
]


def letter(sender, receiver, number, label, value):
    return ("letter", sender, receiver, number, label, value)


# Calls of methods, in turn, for objects that a maker makes.
TALKS = [
    (lambda: runner.Runner(("a", "b"), "a", tables.end_tables(score())["a"], [1, 2]),
     [("step",)] * 3 + [("outgoing",), ("journal",), ("deeds",), ("variables",)] * 2 + [("step",)] * 9 +
     [("deliver", letter("b", "a", 0, "back", 3)), ("step",), ("outgoing",), ("journal",), ("flush",), ("outgoing",),
      ("unreceipted", "b"), ("has_ended",), ("fall", 1), ("deeds",), ("checkpoint",), ("fall", 0), ("journal",),
      ("deeds",), ("variables",), ("outgoing",), ("deliver", ("receipt", "b", "a", 1)), ("outgoing",)]),
    (lambda: world.World(score(), inputs()),
     [("work", "a", 3), ("post", "a"), ("bag",), ("bag",), ("double", 0), ("bag",), ("hand_over", 0), ("work", "b", 1),
      ("journal", "b"), ("deeds", "b"), ("variables", "b"), ("cut",), ("calm_round",), ("calm_round",), ("bag",),
      ("journal", "b"), ("fall", "b", 1), ("deeds", "b"), ("checkpoint", "b"), ("fall", "b", 0), ("variables", "b"),
      ("unreceipted", "a", "b"), ("deeds", "a"), ("has_ended",), ("lose", 5), ("flush", "c"), ("deeds", "a")]),
    (lambda: watch.Watcher(score(), "b"),
     [("next_letters",), ("get", "a", "more"), ("next_letters",), ("next_letters",), ("get", "a", "stop"),
      ("next_letters",), ("send", "b", "back"), ("next_letters",)]),
    (lambda: machine.Machine("a", made_code(), [2, 7]),
     [("run", {"b": [("back", 3)]}, 2), ("variables",), ("run", {}, 0), ("run", {"b": [("k", 3)]}, 90), ("has_ended",),
      ("variables",), ("run", {"b": [("back", 3), ("back", 4)]}, 90), ("variables",), ("has_ended",), ("run", {}, 3)]),
    (lambda: hall.Hall(("x", "y")),
     [("begin", score(), inputs(), {"a": "x", "b": "y"}), ("begin", score(), inputs(), {"a": "y", "b": "y"}), ("plays",),
      ("begin", score(), inputs(), {"a": "y"}), ("begin", score(), {}, {"a": "y", "b": "x"}), ("work", 0, "a", 9),
      ("tidy", "x"), ("bag",), ("bag",), ("double", 0), ("hand_over", 0), ("bag",), ("work", 0, "b", 9), ("deeds", 0, "a"),
      ("deeds", 0, "a"), ("variables", 0, "a"), ("fall", "y"), ("fall", "z"), ("cut", 0), ("put_away", 0), ("lose", 99)] +
     [("calm_round",)] * 5 + [("has_ended", 0), ("put_away", 0), ("plays",), ("plays",), ("bag",), ("deeds", 1, "b"),
                              ("variables", 1, "b"), ("cut", 1), ("put_away", 0), ("cut", 0)]),
]


def shown(value):
    """What a value consists of, objects of the program included, all copied."""
    if isinstance(value, (list, tuple)):
        return (str(type(value)), [shown(part) for part in value])
    if isinstance(value, dict):
        return {key: shown(part) for key, part in value.items()}
    if isinstance(value, ScoreError):
        return (str(type(value)), shown(vars(value)))
    return shown(vars(value)) if hasattr(value, "__dict__") else value


def spoil(value):
    """Changes all lists and dicts in a value, but nothing inside of objects of the program."""
    if isinstance(value, (list, tuple, dict)):
        for part in value.values() if isinstance(value, dict) else value:
            spoil(part)
    if isinstance(value, list):
        value.append("spoiled")
        value.reverse()
    if isinstance(value, dict):
        value.clear()
        value["spoiled"] = []


def result(function, *arguments):
    """What a function returns or raises."""
    try:
        return function(*arguments)
    except ScoreError as error:
        return error


class Shared(unittest.TestCase):
    def test_functions(self):
        for function, made in CASES:
            arguments = made()
            before = shown(arguments)
            first = result(function, *arguments)
            self.assertEqual(shown(arguments), before, function)
            expected = shown(first)
            second = result(function, *arguments)
            self.assertEqual(shown(second), expected, function)
            spoil(second)
            self.assertEqual(shown(first), expected, function)
            self.assertEqual(shown(arguments), before, function)
            self.assertEqual(shown(result(function, *arguments)), expected, function)
            spoil(arguments)
            self.assertEqual(shown(first), expected, function)
            self.assertEqual(shown(result(function, *made())), expected, function)

    def test_methods(self):
        for made, calls in TALKS:
            kept, spoiled, other = made(), made(), made()
            untouched = shown(other)
            for name, *arguments in calls:
                passed = copy.deepcopy(arguments)
                first = result(getattr(kept, name), *arguments)
                before = shown(spoiled)
                second = result(getattr(spoiled, name), *passed)
                self.assertEqual(shown(passed), shown(arguments), name)
                self.assertEqual(shown(first), shown(second), name)
                spoil(passed)
                if isinstance(second, ScoreError):
                    self.assertEqual(shown(spoiled), before, name)
                spoil(second)
                self.assertEqual(shown(spoiled), shown(kept), name)
            self.assertEqual(shown(other), untouched)

    def test_a_score_serves_several_objects(self):
        one = score()
        before = shown(one)
        for made in (lambda: world.World(one, inputs()), lambda: watch.Watcher(one, "a"),
                     lambda: meaning.PlainRun(one, inputs())):
            first, second = made(), made()
            kept = shown(second)
            for name in ("calm_round", "next_letters"):
                if hasattr(first, name):
                    getattr(first, name)()
            self.assertEqual((shown(second), shown(one)), (kept, before))

    def test_saved_and_opened_worlds(self):
        first = made_world()
        saved = saving.save_world(first)
        second = saving.open_world(score(), inputs(), saved)
        kept = shown(first)
        self.assertEqual(shown(second), kept)
        for name, *arguments in (("calm_round",), ("fall", "a", 9), ("flush", "b"), ("checkpoint", "b"), ("lose", 99),
                                 ("calm_round",)):
            result(getattr(second, name), *arguments)
        self.assertEqual((shown(first), saving.save_world(first)), (kept, saved))

    def test_the_ways_of_an_error(self):
        error = result(tables.paper, unclear())
        self.assertIsInstance(error, Unclear)
        expected = shown(error)
        error.first.clear()
        error.second.append((9, ""))
        self.assertEqual(shown(result(tables.paper, unclear())), expected)

    def test_attributes_of_a_plain_run(self):
        first = run()
        cuts, rows = meaning.even_cuts(first), first.rows
        spoil(rows)
        spoil(first.variables)
        self.assertEqual(meaning.even_cuts(first), cuts)
        self.assertEqual(shown(run()), shown(run()))


if __name__ == "__main__":
    unittest.main()
