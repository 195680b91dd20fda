"""What several test files share: texts, random trees, and slow but plain ways to work things out."""

import pathlib
import random
import sys

ROOT = pathlib.Path(__file__).resolve().parent.parent
if str(ROOT) not in sys.path:
    sys.path.insert(0, str(ROOT))

from onescore.errors import InvalidScore, SyntaxProblem
from onescore.checks import check_tree
from onescore.flat import Score
from onescore.reader import read_tree

PACKAGE = ROOT / "onescore"
ZERO = ("number", 0)
ONE = ("number", 1)


def place_of_failure(text):
    """The place at which reading a text fails, or None if it can be read."""
    try:
        read_tree(text)
    except SyntaxProblem as problem:
        return problem.start
    return None


def broken_rule(tree):
    """The rule that a tree breaks, or None."""
    try:
        result = check_tree(tree)
    except InvalidScore as problem:
        return problem.rule
    assert result is None
    return None


def random_value(rng, depth=2):
    if depth == 0 or rng.random() < 0.4:
        return rng.choice([ZERO, ONE, ("number", 4294967295), ("name", "x"), ("name", "y")])
    return (rng.choice(["<", "==", "+", "-", "*"]), random_value(rng, depth - 1), random_value(rng, depth - 1))


def few_values(rng):
    return rng.choice([ZERO, ZERO, ONE, ("name", "x")])


def random_statement(rng, ends, many, loops, values):
    """A statement that holds at most so many statements, itself counted in."""
    end = rng.choice(ends)
    sorts = ["set", "ask"] + ["message"] * (6 if len(ends) > 1 else 0)
    if many > 1:
        sorts += ["if"] * 4
        if loops < 3:
            sorts += ["while"] * 2
    sort = rng.choice(sorts)
    if sort == "set":
        return ("set", end, rng.choice(["x", "y"]), values(rng))
    if sort == "ask":
        return ("ask", end, rng.choice(["x", "y"]))
    if sort == "message":
        other = rng.choice([name for name in ends if name != end])
        return ("message", end, other, rng.choice("klm"), values(rng), rng.choice(["x", "x", "x", "y"]))
    if sort == "while":
        return ("while", end, values(rng), random_block(rng, ends, many - 1, loops + 1, values))
    cut = rng.randint(0, many - 1)
    return ("if", end, values(rng), random_block(rng, ends, cut, loops, values),
            random_block(rng, ends, many - 1 - cut, loops, values))


def blocks_of(statement):
    """The blocks inside of a statement."""
    return {"if": statement[3:], "while": statement[3:]}.get(statement[0], ())


def size_of(block):
    """The number of statements of a block, those inside of others counted in."""
    return sum(1 + sum(size_of(inner) for inner in blocks_of(statement)) for statement in block)


def random_block(rng, ends, many, loops=0, values=few_values):
    """A block of at most so many statements, those inside of others counted in."""
    block = ()
    while many > 0 and rng.random() < 0.9:
        statement = random_statement(rng, ends, rng.randint(1, many), loops, values)
        many -= size_of((statement,))
        block += (statement,)
    return block


def random_score(seed, most_ends=3, many=8):
    """A played out score of few statements, the same for the same seed."""
    rng = random.Random(seed)
    ends = tuple("abcdef"[:rng.randint(1 if most_ends == 1 else 2, most_ends)])
    return Score((ends, (), random_block(rng, ends, many)))
