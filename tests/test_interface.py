"""The names and arguments of the interface, each one defined in the file under which the interface lists it (L16)."""

import ast
import unittest

from helpers import PACKAGE

FUNCTIONS = {
    "reader": ["tokens(text)", "read_tree(text)"],
    "printer": ["print_value(tree)", "print_tree(tree)"],
    "checks": ["check_tree(tree)"],
    "flat": ["read_score(text)"],
    "ways": ["is_way(score, way)", "place(score, way)", "seen(score, way, end)", "concerns(score, position, end)",
             "agree(score, end, first, second)"],
    "clear": ["rest(score, end, positions)", "behind(score, end, positions, look)", "witness(score)",
              "is_witness(score, end, first, second)"],
    "tables": ["paper(score)", "least_table(table)", "end_tables(score)", "alike(table, first, second)"],
    "judge": ["judge(score, given)"],
    "numbers": ["number_of(tree, variables)"],
    "meaning": ["is_even(run, cut)", "even_cuts(run)"],
    "explore": ["possible_cuts(score, inputs)"],
    "mend": ["mended(tree)"],
    "prices": ["least_price(score)", "greatest_price(score)"],
    "code": ["code_of(table)", "is_sound(ends, code)"],
    "accounts": ["explanation(score, account)", "part_explanation(score, account)", "looks_of(deeds, score, end)"],
    "order": ["clocks(run)", "comes_before(run, first, second)", "apart(run, first, second)", "rounds(run)"],
    "saving": ["save_world(world)", "open_world(score, inputs, saved)", "lasting_cut(world)"],
    "exchange": ["may_exchange(tree, path)", "exchanged(tree, path)"],
    "listing": ["write_code(code)", "read_code(text)"],
}
CLASSES = {
    ("flat", "Score"): ["__init__(self, tree)"],
    ("meaning", "PlainRun"): ["__init__(self, score, inputs)"],
    ("runner", "Runner"): [
        "__init__(self, ends, name, table, inputs)", "step(self)", "deliver(self, item)", "outgoing(self)",
        "flush(self)", "checkpoint(self)", "fall(self, lost)", "journal(self)", "has_ended(self)", "deeds(self)",
        "variables(self)", "unreceipted(self, other)"],
    ("world", "World"): [
        "__init__(self, score, inputs)", "work(self, end, count)", "flush(self, end)", "checkpoint(self, end)",
        "fall(self, end, lost)", "post(self, end)", "bag(self)", "hand_over(self, index)", "lose(self, index)",
        "double(self, index)", "calm_round(self)", "has_ended(self)", "cut(self)", "deeds(self, end)",
        "variables(self, end)", "journal(self, end)", "unreceipted(self, end, other)"],
    ("watch", "Watcher"): ["__init__(self, score, end)", "send(self, to, label)", "get(self, other, label)",
                           "next_letters(self)"],
    ("machine", "Machine"): ["__init__(self, name, code, inputs)", "run(self, letters, count)", "has_ended(self)",
                             "variables(self)"],
    ("hall", "Hall"): [
        "__init__(self, houses)", "begin(self, score, inputs, homes)", "work(self, play, end, count)",
        "tidy(self, house)", "fall(self, house)", "bag(self)", "hand_over(self, index)", "lose(self, index)",
        "double(self, index)", "calm_round(self)", "has_ended(self, play)", "cut(self, play)",
        "deeds(self, play, end)", "variables(self, play, end)", "plays(self)", "put_away(self, play)"],
}


def body_of(module):
    return ast.parse((PACKAGE / (module + ".py")).read_text(encoding="utf-8")).body


def functions_in(body):
    """The functions that are defined in a body, with their arguments, as they are written in the interface."""
    return [f"{node.name}({', '.join(arg.arg for arg in node.args.args)})" for node in body
            if isinstance(node, ast.FunctionDef) and not node.args.defaults and not node.args.kwonlyargs]


class Interface(unittest.TestCase):
    def test_functions(self):
        for module, listed in FUNCTIONS.items():
            found = functions_in(body_of(module))
            for signature in listed:
                self.assertIn(signature, found, module)

    def test_classes_and_methods(self):
        for (module, name), listed in CLASSES.items():
            classes = [node for node in body_of(module) if isinstance(node, ast.ClassDef) and node.name == name]
            self.assertEqual(len(classes), 1, name)
            found = functions_in(classes[0].body)
            for signature in listed:
                self.assertIn(signature, found, name)


if __name__ == "__main__":
    unittest.main()
