"""Points 3 to 6: tokens, the form of a text, the place of a failure, and trees."""

import itertools
import random
import re
import unittest

import helpers
from helpers import place_of_failure
from onescore.reader import read_tree, tokens

WORDS = "ends part play call asks sets as if else while".split()
PATTERN = re.compile(r"[ \n]+|#[^\n]*|(?P<letters>[A-Za-z][A-Za-z0-9_]*)|(?P<number>[0-9]+)"
                     r"|(?P<sign>->|==|[(){},:=<+*-])|(?P<wrong>[\s\S])")


def plain_tokens(text):
    """The tokens by a pattern, to compare with."""
    found = []
    for match in PATTERN.finditer(text):
        sort = match.lastgroup
        if sort == "letters":
            sort = "word" if match.group() in WORDS else "name"
        if sort:
            found.append((sort, match.start(), match.end()))
    return found


def sorts(text):
    return [(sort, text[start:end]) for sort, start, end in tokens(text)]


class Tokens(unittest.TestCase):
    def test_words(self):
        for word in WORDS:
            self.assertEqual(tokens(word), [("word", 0, len(word))])

    def test_names_that_look_like_words(self):
        for name in ("End", "ends1", "if_", "play2", "assets", "asif", "IF", "a_b_1", "Z", "en", "elsewhile"):
            self.assertEqual(tokens(name), [("name", 0, len(name))], name)

    def test_numbers_and_names_side_by_side(self):
        self.assertEqual(tokens("1a"), [("number", 0, 1), ("name", 1, 2)])
        self.assertEqual(tokens("a1"), [("name", 0, 2)])
        self.assertEqual(tokens("007if"), [("number", 0, 3), ("word", 3, 5)])

    def test_each_sign(self):
        for sign in "( ) { } , : = < + - * -> ==".split():
            self.assertEqual(tokens(sign), [("sign", 0, len(sign))], sign)

    def test_long_signs_go_first(self):
        self.assertEqual(sorts("->=="), [("sign", "->"), ("sign", "==")])
        self.assertEqual(sorts("--><"), [("sign", "-"), ("sign", "->"), ("sign", "<")])
        self.assertEqual(sorts("==="), [("sign", "=="), ("sign", "=")])
        self.assertEqual(sorts("= ="), [("sign", "="), ("sign", "=")])
        self.assertEqual(sorts("- >"), [("sign", "-"), ("wrong", ">")])
        self.assertEqual(sorts("<="), [("sign", "<"), ("sign", "=")])
        self.assertEqual(sorts("<-"), [("sign", "<"), ("sign", "-")])

    def test_underscore_at_the_beginning_is_wrong(self):
        self.assertEqual(tokens("_a"), [("wrong", 0, 1), ("name", 1, 2)])
        self.assertEqual(tokens("1_a"), [("number", 0, 1), ("wrong", 1, 2), ("name", 2, 3)])
        self.assertEqual(tokens("__"), [("wrong", 0, 1), ("wrong", 1, 2)])

    def test_wrong_characters(self):
        for sign in "!\"$&'./;>?@[\\]^_`|~":
            self.assertEqual(tokens(" " + sign + "a"), [("wrong", 1, 2), ("name", 2, 3)], sign)

    def test_every_printable_character_by_itself(self):
        for code in range(32, 127):
            self.assertEqual(tokens(chr(code)), plain_tokens(chr(code)), chr(code))

    def test_comments(self):
        self.assertEqual(tokens("a#b c\nd"), [("name", 0, 1), ("name", 6, 7)])
        self.assertEqual(tokens("a # if\n# else # 1\n  2#"), [("name", 0, 1), ("number", 20, 21)])
        self.assertEqual(tokens("a # to the end of the text"), [("name", 0, 1)])
        self.assertEqual(tokens("#"), [])
        self.assertEqual(tokens("#\n"), [])

    def test_nothing_to_find(self):
        for text in ("", " ", "\n", " \n  \n", "# a"):
            self.assertEqual(tokens(text), [], repr(text))

    def test_offsets(self):
        self.assertEqual(tokens(" ends  a,b1\n"),
                         [("word", 1, 5), ("name", 7, 8), ("sign", 8, 9), ("name", 9, 11)])

    def test_random_texts_against_a_pattern(self):
        rng = random.Random(1)
        for _ in range(600):
            text = "".join(rng.choice("aZ_09 -->==<#\n(){},:+*!if~") for _ in range(rng.randint(0, 30)))
            self.assertEqual(tokens(text), plain_tokens(text), repr(text))


def score_text(statement):
    return "ends a, b play { " + statement + " }"


def read_statement(text):
    ends, parts, block = read_tree(score_text(text))
    assert (ends, parts, len(block)) == (("a", "b"), (), 1)
    return block[0]


def read_value(text):
    return read_statement("a sets x = " + text)[3]


class Forms(unittest.TestCase):
    def test_example(self):
        self.assertEqual(
            read_tree("ends a, b play { a asks n a -> b: sum(n + 1) as m }"),
            (('a', 'b'), (), (('ask', 'a', 'n'),
                              ('message', 'a', 'b', 'sum', ('+', ('name', 'n'), ('number', 1)), 'm'))))

    def test_each_statement(self):
        one = ("number", 1)
        self.assertEqual(read_statement("a -> b: k(1) as n"), ("message", "a", "b", "k", one, "n"))
        self.assertEqual(read_statement("a sets x = 1"), ("set", "a", "x", one))
        self.assertEqual(read_statement("a asks x"), ("ask", "a", "x"))
        self.assertEqual(read_statement("if a: 1 { a asks x } else { b asks y }"),
                         ("if", "a", one, (("ask", "a", "x"),), (("ask", "b", "y"),)))
        self.assertEqual(read_statement("if a: 1 { } else { }"), ("if", "a", one, (), ()))
        self.assertEqual(read_statement("while a: 1 { a asks x b asks x }"),
                         ("while", "a", one, (("ask", "a", "x"), ("ask", "b", "x"))))
        self.assertEqual(read_statement("call p(a)"), ("call", "p", ("a",)))
        self.assertEqual(read_statement("call p(a, b, c)"), ("call", "p", ("a", "b", "c")))

    def test_heads_and_parts(self):
        self.assertEqual(read_tree("ends a play { }"), (("a",), (), ()))
        self.assertEqual(read_tree("ends a,b,c part p(x) { } part q(x,y) { x asks n } play{}"),
                         (("a", "b", "c"), (("p", ("x",), ()), ("q", ("x", "y"), (("ask", "x", "n"),))), ()))

    def test_without_blanks_and_with_comments(self):
        tight = "ends a,b play{if a:n<1{a->b:k(n)as n}else{}a sets x=1b asks y}"
        wide = tight.replace("{", " {\n").replace("}", " # a comment } {\n } ").replace(":", " : ").replace("1b", "1 b")
        self.assertEqual(read_tree(tight), read_tree(wide))

    def test_rules_of_a_score_are_not_looked_at(self):
        self.assertEqual(read_tree("ends a, a play { z -> z: k(1) as n call q(a, a) }")[0], ("a", "a"))


class Values(unittest.TestCase):
    def test_numbers_count_modulo(self):
        for digits in ("0", "007", "4294967295", "4294967296", "4294967297", "98765432109876543210", "0" * 50 + "5"):
            self.assertEqual(read_value(digits), ("number", int(digits) % 4294967296), digits)

    def test_a_very_long_number(self):
        digits = "7" * 5500
        value = 0
        for _ in digits:
            value = (value * 10 + 7) % 4294967296
        self.assertEqual(read_value(digits), ("number", value))

    def test_every_two_signs(self):
        strength = {"<": 0, "==": 0, "+": 1, "-": 1, "*": 2}
        a, b, c = ("name", "a"), ("name", "b"), ("name", "c")
        for first, second in itertools.product(strength, repeat=2):
            text = f"a {first} b {second} c"
            with self.subTest(text):
                if strength[first] == strength[second] == 0:
                    whole = score_text("a sets x = " + text)
                    self.assertEqual(place_of_failure(whole), whole.rindex(second))
                elif strength[first] >= strength[second]:
                    self.assertEqual(read_value(text), (second, (first, a, b), c))
                else:
                    self.assertEqual(read_value(text), (first, a, (second, b, c)))

    def test_signs_associate_to_the_left(self):
        self.assertEqual(read_value("1 - 2 - 3 + 4"),
                         ("+", ("-", ("-", ("number", 1), ("number", 2)), ("number", 3)), ("number", 4)))
        self.assertEqual(read_value("1 * 2 * 3"), ("*", ("*", ("number", 1), ("number", 2)), ("number", 3)))

    def test_brackets_leave_no_trace(self):
        self.assertEqual(read_value("((x))"), ("name", "x"))
        self.assertEqual(read_value("(1 * 2) + (3)"), read_value("1 * 2 + 3"))
        self.assertEqual(read_value("1 - (2 - 3)"), ("-", ("number", 1), ("-", ("number", 2), ("number", 3))))
        self.assertEqual(read_value("(1 + 2) * 3"), ("*", ("+", ("number", 1), ("number", 2)), ("number", 3)))

    def test_comparisons_once_at_each_level(self):
        self.assertEqual(read_value("(1 < 2) < 3"), ("<", ("<", ("number", 1), ("number", 2)), ("number", 3)))
        self.assertEqual(read_value("1 == (2 < 3)"), ("==", ("number", 1), ("<", ("number", 2), ("number", 3))))
        self.assertEqual(read_value("(1 < 2) + (3 == 4)"), ("+", ("<", ("number", 1), ("number", 2)),
                                                             ("==", ("number", 3), ("number", 4))))
        for text in ("1 < 2 < 3", "1 == 2 == 3", "1 < 2 == 3", "(1 < 2 < 3)"):
            self.assertIsNotNone(place_of_failure(score_text("a sets x = " + text)), text)

    def test_a_value_of_very_many_signs(self):
        tree = read_value("1" + "+1" * 2900)
        many = 0
        while tree[0] == "+":
            self.assertEqual(tree[2], ("number", 1))
            tree = tree[1]
            many += 1
        self.assertEqual((many, tree), (2900, ("number", 1)))


# An independent reader: each form yields the indexes at which it can end, and
# the greatest index at which a token did not fit is where reading fails.
GRAMMAR = {
    "score": ["seq", "'ends", "NAME", ["many", "',", "NAME"], ["many", "part"], "'play", "block"],
    "part": ["seq", "'part", "NAME", "'(", "NAME", ["many", "',", "NAME"], "')", "block"],
    "block": ["seq", "'{", ["many", "statement"], "'}"],
    "statement": ["or",
                  ["seq", "NAME", "'->", "NAME", "':", "NAME", "'(", "value", "')", "'as", "NAME"],
                  ["seq", "NAME", "'sets", "NAME", "'=", "value"],
                  ["seq", "NAME", "'asks", "NAME"],
                  ["seq", "'if", "NAME", "':", "value", "block", "'else", "block"],
                  ["seq", "'while", "NAME", "':", "value", "block"],
                  ["seq", "'call", "NAME", "'(", "NAME", ["many", "',", "NAME"], "')"]],
    "value": ["or", ["seq", "sum", ["or", "'<", "'=="], "sum"], "sum"],
    "sum": ["seq", "product", ["many", ["or", "'+", "'-"], "product"]],
    "product": ["seq", "simple", ["many", "'*", "simple"]],
    "simple": ["or", "NUMBER", "NAME", ["seq", "'(", "value", "')"]],
}


class SlowReader:
    def __init__(self, text):
        self.text = text
        self.tokens = plain_tokens(text)
        self.furthest = 0

    def ends(self, form, at):
        if isinstance(form, list):
            return getattr(self, form[0] + "_ends")(form[1:], at)
        if form in GRAMMAR:
            return self.ends(GRAMMAR[form], at)
        if at < len(self.tokens):
            sort, start, end = self.tokens[at]
            if form == sort.upper() or (form[0] == "'" and self.text[start:end] == form[1:]):
                return {at + 1}
        self.furthest = max(self.furthest, at)
        return set()

    def or_ends(self, forms, at):
        return set().union(*[self.ends(form, at) for form in forms])

    def seq_ends(self, forms, at):
        places = {at}
        for form in forms:
            places = set().union(*[self.ends(form, place) for place in places])
        return places

    def many_ends(self, forms, at):
        places, new = {at}, {at}
        while new:
            new = set().union(*[self.seq_ends(forms, place) for place in new]) - places
            places |= new
        return places

    def place(self):
        ends = self.ends("score", 0)
        if len(self.tokens) in ends:
            return None
        at = max(self.furthest, max(ends, default=0))
        if at < len(self.tokens):
            return self.tokens[at][1]
        return self.tokens[-1][2] if self.tokens else 0


BASE = ("ends a , b part p ( x , y ) { x -> y : k ( n + 1 ) as m } play { a sets x = 1 * ( 2 < z ) "
        "b asks y if a : n == 0 { call p ( a , b ) } else { } while b : n - 1 { } }").split()
OTHERS = WORDS + "name 12 ( ) { } , : = < + - * -> == _ > ;".split()


class Failures(unittest.TestCase):
    def test_the_base_can_be_read(self):
        self.assertIsNone(place_of_failure(" ".join(BASE)))
        self.assertIsNone(SlowReader(" ".join(BASE)).place())

    def test_each_token_in_each_place(self):
        for at, other in itertools.product(range(len(BASE)), OTHERS):
            for rest in (BASE[at + 1:], BASE[at:]):
                text = " ".join(BASE[:at] + [other] + rest)
                self.assertEqual(place_of_failure(text), SlowReader(text).place(), text)

    def test_each_token_left_out(self):
        for at in range(len(BASE)):
            text = " ".join(BASE[:at] + BASE[at + 1:])
            self.assertEqual(place_of_failure(text), SlowReader(text).place(), text)

    def test_tokens_that_end_too_early(self):
        for many in range(len(BASE)):
            text = " ".join(BASE[:many])
            for behind in ("", "  ", "\n", " # a comment", "#\n \n"):
                self.assertEqual(place_of_failure(text + behind), len(text), text + behind)

    def test_no_tokens(self):
        for text in ("", "  ", "\n\n", "# only a comment", " # a\n # b\n"):
            self.assertEqual(place_of_failure(text), 0, repr(text))

    def test_wrong_tokens(self):
        self.assertEqual(place_of_failure("ends a; play { }"), 6)
        self.assertEqual(place_of_failure("ends _a play { }"), 5)
        self.assertEqual(place_of_failure("; ends a play { }"), 0)
        self.assertEqual(place_of_failure("ends a play { } ."), 16)

    def test_tokens_left_over(self):
        for other in OTHERS:
            self.assertEqual(place_of_failure("ends a play { } " + other), 16, other)
            self.assertEqual(place_of_failure("ends a play { }\n#\n  " + other + " a"), 20, other)

    def test_two_signs_where_one_belongs(self):
        self.assertEqual(place_of_failure("ends a play { a sets x == 1 }"), 23)
        self.assertEqual(place_of_failure("ends a, b play { a - > b: k(1) as n }"), 19)
        self.assertEqual(place_of_failure("ends a play { if a: 1 = 2 { } else { } }"), 22)
        self.assertEqual(place_of_failure("ends a play { a sets x = -1 }"), 25)
        self.assertEqual(place_of_failure("ends a play { a sets x = y (1) }"), 27)
        self.assertEqual(place_of_failure("ends a, b play { a -> b: k() as n }"), 27)

    def test_the_first_failure_counts(self):
        self.assertEqual(place_of_failure("ends a play { a sets = ; } }"), 21)


def blocks_inside(many, around="play "):
    """A text in which a block is inside of so many others."""
    return "ends a " + around + "{ while a: 1 " * many + "{ } " + "} " * many


class Depths(unittest.TestCase):
    def test_blocks(self):
        self.assertIsNone(place_of_failure(blocks_inside(11)))
        for many in (12, 13, 40):
            text = blocks_inside(many)
            starts = [at for at, sign in enumerate(text) if sign == "{"]
            self.assertEqual(place_of_failure(text), starts[12], many)

    def test_blocks_of_ifs_and_of_parts(self):
        deep = "{ if a: 1 { } else " * 11 + "{ } " + "} " * 11
        self.assertIsNone(place_of_failure("ends a play " + deep))
        text = "ends a play " + "{ if a: 1 { } else " * 12 + "{ } " + "} " * 12
        self.assertEqual(place_of_failure(text), text.index("{ }", text.rindex("if")))
        self.assertIsNone(place_of_failure("ends a part p(a) " + deep + "play " + deep))
        text = blocks_inside(12, "part p(a) ") + "play { }"
        self.assertEqual(place_of_failure(text), [at for at, sign in enumerate(text) if sign == "{"][12])

    def test_blocks_one_behind_the_other_do_not_count(self):
        self.assertIsNone(place_of_failure("ends a play { " + "while a: 1 { } " * 30 + "}"))

    def test_another_token_than_the_block_fails_there_too(self):
        text = "ends a play " + "{ while a: 1 " * 12
        self.assertEqual(place_of_failure(text + "as"), len(text))
        self.assertEqual(place_of_failure(text), len(text.rstrip()))

    def test_brackets(self):
        for head, tail in (("a sets x = ", ""), ("a -> b: k(", ") as n"), ("if a: ", " { } else { }"),
                           ("while a: 1 + ", " { }")):
            for many in range(10, 16):
                text = score_text(head + "(" * many + "n" + ")" * many + tail)
                if many <= 12:
                    self.assertIsNone(place_of_failure(text), text)
                else:
                    self.assertEqual(place_of_failure(text), text.index(head) + len(head) + 12, text)

    def test_brackets_inside_of_right_parts_count(self):
        self.assertIsNone(place_of_failure(score_text("a sets x = " + "1 - (" * 12 + "n" + ")" * 12)))
        text = score_text("a sets x = " + "1 - (" * 13 + "n" + ")" * 13)
        self.assertEqual(place_of_failure(text), text.rindex("("))

    def test_brackets_one_behind_the_other_and_in_other_values_do_not_count(self):
        self.assertIsNone(place_of_failure(score_text("a sets x = " + "(n) + " * 40 + "1")))
        inner = "(" * 12 + "n" + ")" * 12
        deep = "if a: " + inner + " { a sets x = " + inner + " + " + inner + " a -> b: k(" + inner + ") as n } else { }"
        self.assertIsNone(place_of_failure(score_text(deep)))


if __name__ == "__main__":
    unittest.main()
