"""Points 14 and 16: right tables with their notes, and the judge of papers."""

import copy
import random
import time
import unittest

import helpers
from helpers import END, ONE, ZERO, goals, with_numbers
from onescore.clear import rest
from onescore.flat import Score, read_score
from onescore.judge import judge
from onescore.tables import paper
from onescore.trees import key_of

EVERYTHING = ("ends a, b, c play { while a: n { a asks n if a: n { a -> b: more(n) as k } else "
              "{ a -> b: less(1) as j } b sets k = j + 1 b -> a: back(k) as n } a -> b: stop(0) as k "
              "c asks m c sets m = m * 2 }")


def looks_of(state):
    """A dict from the looks that a state gives to the numbers of the states behind them."""
    if state[0] == "get":
        return {("get", state[1], label, variable): goal for label, variable, goal in state[2]}
    if state[0] in ("if", "while"):
        return {state[:-2] + ("yes",): state[-2], state[:-2] + ("no",): state[-1]}
    return {} if state == END else {state[:-1]: state[-1]}


def plain_right(score, end, table, notes):
    """Whether a table is right with these notes, by the words of point 14."""
    last = len(score.statements)
    if not table or len(table) != len(notes) or set(notes[0]) != helpers.plain_rest(score, end, {0}):
        return False
    for state, note in zip(table, notes):
        if list(note) != sorted(set(note)) or not all(position in range(last + 1) for position in note):
            return False
        acting = [position for position in note if helpers.must_act(score, end, position)]
        if not acting or not all(helpers.plain_agree(score, end, one, other) for one in acting for other in acting):
            return False
        behinds, looks = helpers.plain_behind(score, end, note), looks_of(state)
        if (state == END) != (acting == [last]) or set(behinds) != set(looks):
            return False
        if state[0] == "get" and [row[0] for row in state[2]] != sorted({row[0] for row in state[2]}):
            return False
        for look, goal in looks.items():
            if goal not in range(len(notes)) or set(notes[goal]) != behinds[look]:
                return False
    return True


def plain_judge(score, given):
    return set(given) == set(score.ends) and all(plain_right(score, end, *given[end]) for end in score.ends)


def replaced(row, at, part):
    return row[:at] + (part,) + row[at + 1:]


def changed_states(rng, state, many):
    """States that differ from one in one part, each part once; and in one number."""
    found = [with_numbers(state, replaced(tuple(goals(state)), at, number))
             for at in range(len(goals(state))) for number in (-1, many, -many, rng.randrange(many))]
    for at in range(1, len(state) - len(goals(state)) + (state[0] == "get") * len(goals(state))):
        if isinstance(state[at], str):
            found += [replaced(state, at, part) for part in ("a", "b", "c", "n", "zz") if part != state[at]]
        elif isinstance(state[at], int):
            found += [replaced(state, at, part) for part in (state[at] + 1, state[at] - 1)]
        elif state[0] != "get":
            found += [replaced(state, at, part) for part in (ZERO, ("name", "zz")) if part != state[at]]
    if state[0] == "get":
        choices = state[2]
        goal = choices[0][2]
        found += [("get", state[1], choices[:at] + choices[at + 1:]) for at in range(len(choices)) if choices[1:]]
        found += [("get", state[1], choices + (("zz", "n", goal),)), ("get", state[1], (("A", "n", goal),) + choices)]
        found += [("get", state[1], choices[::-1])] if choices[1:] else []
        found += [("get", state[1], choices + choices[-1:])]
        found += [("get", state[1], replaced(choices, at, choices[at][:1] + ("zz",) + choices[at][2:]))
                  for at in range(len(choices))]
        found += [("get", state[1], replaced(choices, at, ("zz",) + choices[at][1:])) for at in range(len(choices))]
    found += [other for other in (END, ("ask", "n", 0), ("set", "n", ZERO, 0), ("send", "b", "zz", ZERO, 0),
                                  ("if", ZERO, 0, 0), ("while", 0, ZERO, 0, 0), ("get", "b", (("zz", "n", 0),)))
              if other != state]
    return [other for other in found if other != state]


def changed_notes(note, last):
    """Notes that differ from one."""
    found = [note[:at] + note[at + 1:] for at in range(len(note))]
    found += [note + (last + 1,), note + (last + 100,), (-1,) + note, note + note[-1:], note[:1] + note, ()]
    found += [tuple(sorted(note + (position,))) for position in range(last + 1) if position not in note]
    found += [note[::-1]] if note[1:] else []
    return found


def changed_papers(rng, score, given):
    """Papers that differ from one in one thing."""
    for end, (table, notes) in given.items():
        for at, state in enumerate(table):
            for other in changed_states(rng, state, len(table)):
                yield {**given, end: (replaced(table, at, other), notes)}
        for at, note in enumerate(notes):
            for other in changed_notes(note, len(score.statements)):
                yield {**given, end: (table, replaced(notes, at, other))}
        yield {**given, end: (table, notes[:-1])}
        yield {**given, end: (table, notes + notes[-1:])}
        yield {**given, end: (table[:-1], notes)}
        yield {**given, end: (table + table[-1:], notes)}
        yield {**given, end: ((), notes)}
        yield {**given, end: ((), ())}
        yield {name: given[name] for name in given if name != end}


def doubled(rng, table, notes):
    """A right table that has each state twice, with state 0 at its place."""
    many = len(table)
    places = [0] + rng.sample(range(1, 2 * many), 2 * many - 1)
    rows, marks = [None] * (2 * many), [None] * (2 * many)
    for at in range(2 * many):
        numbers = [places[goal + many * rng.randrange(2)] for goal in goals(table[at % many])]
        rows[places[at]], marks[places[at]] = with_numbers(table[at % many], numbers), notes[at % many]
    return (tuple(rows), tuple(marks))


def clear_scores(seeds):
    for seed in seeds:
        score = helpers.random_told_score(seed, share=0.15 * (seed % 3))
        if all(helpers.plain_clear(score, end) for end in score.ends):
            yield score


class Taken(unittest.TestCase):
    def test_papers_of_the_program(self):
        for score in clear_scores(range(300)):
            given = paper(score)
            self.assertIs(judge(score, given), True)
            self.assertIs(plain_judge(score, given), True)

    def test_scores_of_several_kinds(self):
        for text in ("ends a play { }", "ends a, b, c, d, e, f play { }", "ends a play { while a: 1 { } }",
                     "ends a, b play { a -> b: k(1) as n b -> a: k(1) as n }", EVERYTHING,
                     "ends a, b play { if a: 1 { a -> b: x(0) as n } else { a -> b: y(0) as m } }"):
            score = read_score(text)
            self.assertIs(judge(score, paper(score)), True)

    def test_a_score_of_150_statements(self):
        block = tuple(("message", "abcdef"[at % 6], "abcdef"[(at + 1 + at // 6 % 5) % 6], f"k{at}", ONE, "n")
                      for at in range(150))
        score = Score((tuple("abcdef"), (), block))
        given = paper(score)
        self.assertIs(judge(score, given), True)
        table, notes = given["c"]
        self.assertIs(judge(score, {**given, "c": (replaced(table, 20, replaced(table[20], 1, "zz")), notes)}), False)

    def test_right_tables_that_are_not_least(self):
        rng = random.Random(5)
        for score in clear_scores(range(150)):
            given = {end: doubled(rng, table, notes) for end, (table, notes) in paper(score).items()}
            self.assertIs(judge(score, given), True)

    def test_a_superfluous_state(self):
        score = read_score("ends a, b play { a -> b: k(1) as n a asks m }")
        given = paper(score)
        table, notes = given["a"]
        self.assertEqual((table, notes), ((("send", "b", "k", ONE, 1), ("ask", "m", 2), END), ((0,), (1,), (2,))))
        self.assertIs(judge(score, {**given, "a": (table + (("ask", "m", 2),), notes + ((1,),))}), True)
        self.assertIs(judge(score, {**given, "a": (table + (("ask", "m", 4), END), notes + ((1,), (2,)))}), True)
        self.assertIs(judge(score, {**given, "a": (table + (("ask", "m", 1),), notes + ((1,),))}), False)
        self.assertIs(judge(score, {**given, "a": (table + (("ask", "n", 2),), notes + ((1,),))}), False)
        self.assertIs(judge(score, {**given, "a": (table + (END,), notes + ((1,),))}), False)

    def test_a_superfluous_state_with_a_set_that_no_look_leads_to(self):
        score = read_score("ends a, b play { a asks x a asks y a asks x }")
        given = paper(score)
        table, notes = given["b"]
        self.assertEqual((table, notes), ((END,), ((0, 1, 2, 3),)))
        self.assertIs(judge(score, {**given, "b": ((END, END), notes + ((1, 3),))}), True)
        self.assertIs(judge(score, {**given, "b": ((END, END), notes + ((1, 2),))}), False)
        table, notes = given["a"]
        added = table + (("ask", "x", 1),)
        self.assertIs(judge(score, {**given, "a": (added, notes + ((0,),))}), True)
        self.assertIs(judge(score, {**given, "a": (added, notes + ((0, 2),))}), False)
        self.assertIs(judge(score, {**given, "a": (added, notes + ((0, 1),))}), False)

    def test_the_notes_of_superfluous_states(self):
        score = read_score("ends a, b play { a asks x a asks y }")
        given = paper(score)
        table, notes = given["b"]
        for note, expected in (((0, 1, 2), True), ((2,), True), ((1, 0, 2), False), ((0, 0, 2), False), ((2, 2), False),
                               ((-1, 2), False), ((2, 3), False), ((3,), False), ((-1,), False), ((), False),
                               ((0, 1), False), ((2, 1), False), ((0, 2), True)):
            self.assertIs(plain_right(score, "b", table + (END,), notes + (note,)), expected, note)
            self.assertIs(judge(score, {**given, "b": (table + (END,), notes + (note,))}), expected, note)

    def test_the_order_of_the_ends_does_not_matter(self):
        score = read_score(EVERYTHING)
        given = paper(score)
        self.assertIs(judge(score, {end: given[end] for end in reversed(list(given))}), True)


class Refused(unittest.TestCase):
    def test_each_change_of_a_paper_of_everything(self):
        score = read_score(EVERYTHING)
        given = paper(score)
        many = 0
        for other in changed_papers(random.Random(1), score, given):
            expected = plain_judge(score, other)
            self.assertIs(judge(score, other), expected, other)
            many += not expected
        self.assertGreater(many, 400)

    def test_each_change_of_random_papers(self):
        many = 0
        for seed, score in enumerate(clear_scores(range(40))):
            for other in changed_papers(random.Random(seed), score, paper(score)):
                expected = plain_judge(score, other)
                self.assertIs(judge(score, other), expected, other)
                many += not expected
        self.assertGreater(many, 5000)

    def test_ends(self):
        score = read_score("ends a, b play { a asks x }")
        given = paper(score)
        self.assertIs(judge(score, {"a": given["a"]}), False)
        self.assertIs(judge(score, {"b": given["b"]}), False)
        self.assertIs(judge(score, {}), False)
        self.assertIs(judge(score, {**given, "c": given["b"]}), False)
        self.assertIs(judge(score, {"a": given["a"], "c": given["b"]}), False)
        self.assertIs(judge(score, {"a": given["b"], "b": given["a"]}), False)

    def test_exchanged_goals(self):
        score = read_score("ends a, b play { if a: 1 { a -> b: x(0) as n b asks y } else { a -> b: z(0) as n } }")
        given = paper(score)
        for end in "ab":
            table, notes = given[end]
            numbers = tuple(goals(table[0]))
            exchanged = replaced(table, 0, with_numbers(table[0], numbers[::-1]))
            self.assertEqual(len(set(numbers)), 2)
            self.assertIs(judge(score, {**given, end: (exchanged, notes)}), False)

    def test_numbers_that_lead_to_no_state(self):
        score = read_score("ends a play { a asks x }")
        notes = ((0,), (1,))
        self.assertIs(judge(score, {"a": ((("ask", "x", 1), END), notes)}), True)
        for number in (-1, -2, 0, 2, 3, 4294967296, -4294967296):
            self.assertIs(judge(score, {"a": ((("ask", "x", number), END), notes)}), False)

    def test_an_end_state_and_its_note(self):
        score = read_score("ends a, b play { a asks x }")
        given = paper(score)
        for state in (("ask", "x", 0), ("if", ZERO, 0, 0), ("while", 0, ZERO, 0, 0), ("get", "a", (("x", "n", 0),))):
            self.assertIs(judge(score, {**given, "b": ((state,), ((0, 1),))}), False)
        for note in ((0,), (1,), (0, 1, 2), (), (1, 0), (0, 0, 1), (0, 1, 1), (-1, 0, 1)):
            self.assertIs(judge(score, {**given, "b": ((END,), (note,))}), False)
        self.assertIs(judge(score, {**given, "b": ((END,), ((0, 1),))}), True)

    def test_tables_and_notes_of_different_lengths(self):
        score = read_score("ends a, b play { a asks x }")
        given = paper(score)
        for pair in (((), ()), ((), ((0, 1),)), ((END,), ()), ((END,), ((0, 1), (0, 1))), ((END, END), ((0, 1),))):
            self.assertIs(judge(score, {**given, "b": pair}), False)
        self.assertIs(judge(score, {**given, "b": ((END, END), ((0, 1), (0, 1)))}), True)

    def test_places_that_agree_only_in_part(self):
        # In the note of a superfluous state there may be places that no two ways lead to.
        score = read_score("ends a, b play { a -> b: k(1) as n a -> b: l(1) as n a -> b: k(1) as m a -> b: k(1) as n "
                           "b asks n }")
        given = paper(score)
        table, notes = given["b"]
        self.assertEqual(notes, ((0,), (1,), (2,), (3,), (4,), (5,)))
        for choices, note, expected in (
                ((("k", "n", 1), ("l", "n", 2)), (0, 1), True), ((("k", "n", 1),), (0, 1), False),
                ((("l", "n", 2),), (0, 1), False), ((("k", "n", 1), ("l", "n", 2)), (0,), False),
                ((("k", "n", 1), ("l", "n", 2)), (1,), False),
                ((("k", "m", 3), ("l", "n", 2)), (1, 2), True), ((("k", "n", 3), ("l", "n", 2)), (1, 2), False),
                ((("k", "n", 3), ("l", "n", 2)), (0, 1, 2), False), ((("k", "m", 3),), (0, 2), False),
                ((("k", "n", 1),), (0, 2), False), ((("k", "n", 1),), (0, 3), False), ((("k", "n", 4),), (3, 5), False),
                ((("k", "n", 4),), (3, 4), False), ((("k", "m", 3), ("l", "n", 2)), (1, 2, 3), False),
                ((("k", "n", 4), ("l", "n", 2)), (1, 2, 3), False), ((("k", "n", 4), ("l", "n", 2)), (1, 3), True)):
            added = (table + (("get", "a", choices),), notes + (note,))
            self.assertIs(plain_right(score, "b", *added), expected)
            self.assertIs(judge(score, {**given, "b": added}), expected, (choices, note))

    def test_scores_that_are_not_clear(self):
        many = 0
        for seed in range(150):
            score = helpers.random_score(seed)
            if all(helpers.plain_clear(score, end) for end in score.ends):
                continue
            many += 1
            given = {}
            for end in score.ends:
                notes = tuple(tuple(sorted(positions)) for positions in helpers.plain_sets(score, end))
                notes = (tuple(rest(score, end, [0])),) + tuple(note for note in notes if note != tuple(
                    rest(score, end, [0])))
                given[end] = (tuple(END for _ in notes), notes)
            self.assertIs(judge(score, given), False)
        self.assertGreater(many, 50)

    def test_the_paper_of_another_score(self):
        score = read_score("ends a, b play { if a: 1 { a asks x } else { b asks x } }")
        clear = read_score("ends a, b play { if a: 1 { a asks x } else { a asks x } }")
        other = read_score("ends a, b play { b asks x }")
        given = {"a": paper(clear)["a"], "b": paper(other)["b"]}
        self.assertIs(judge(score, given), False)
        table = (("if", ONE, 1, 2), ("ask", "x", 2), END)
        notes = ((0,), (1,), (2, 3))
        self.assertIs(judge(score, {"a": (table, notes), "b": ((("ask", "x", 1), END), ((0, 1, 2, 3), (3,)))}), False)
        self.assertIs(judge(score, {"a": (table, notes), "b": ((END,), ((0, 1, 2, 3),))}), False)


class Limits(unittest.TestCase):
    def test_values_of_very_many_signs(self):
        def deep(last):
            tree = ONE
            for _ in range(3000):
                tree = ("+", tree, last)
            return tree
        score = Score((("a",), (), (("set", "a", "x", deep(ONE)), ("if", "a", deep(ONE), (), ()))))
        given = paper(score)
        start = time.perf_counter()
        self.assertIs(judge(score, given), True)
        table, notes = given["a"]
        for at, parts in ((0, ("set", "x", deep(ZERO), 1)), (1, ("if", deep(ZERO), 2, 2))):
            self.assertEqual(len(key_of(parts)), len(key_of(table[at])))
            self.assertIs(judge(score, {"a": (replaced(table, at, parts), notes)}), False)
        self.assertLess(time.perf_counter() - start, 5)

    def test_arguments_stay_as_they_were(self):
        score = read_score(EVERYTHING)
        given = paper(score)
        kept = copy.deepcopy((given, vars(score)))
        judge(score, given)
        self.assertEqual((given, vars(score)), kept)
        given.clear()
        self.assertIs(judge(score, paper(score)), True)


if __name__ == "__main__":
    unittest.main()
