"""Mended scores, in which ends tell others how they decided (points 32 and 33)."""

from onescore.clear import unclear_ways
from onescore.flat import WHOLE, Score, played_rows, value_of
from onescore.numbers import parts_first
from onescore.trees import listed


def names_in(tree):
    """Returns the dict of the labels and the dict of the variables that a tree of a score has."""
    labels = {}
    variables = {}
    for block in [part[2] for part in tree[1]] + [tree[2]]:
        for statement, _ in listed(block):
            if statement[0] == "message":
                labels[statement[3]] = True
                variables[statement[5]] = True
            elif statement[0] in ("set", "ask"):
                variables[statement[2]] = True
            value = value_of(statement)
            if value is not None:
                variables.update({part[1]: True for part in parts_first(value) if part[0] == "name"})
    return (labels, variables)


def free_name(name, used):
    """Returns a name that is not used."""
    while name in used:
        name = name + "_"
    return name


class Tells:
    """Which ends are told, and with which names."""

    def __init__(self, tree):
        labels, variables = names_in(tree)
        self.labels = labels
        self.variable = free_name("told", variables)
        self.told = []

    def of(self, decider, answer, position):
        """Returns the list of the tells of an answer of the if or while with a position."""
        label = free_name(answer + str(position), self.labels)
        value = ("number", 0)
        return [("message", decider, end, label, value, self.variable) for end in self.told if end != decider]


def with_tells(rows, tells):
    """Returns the block of a played out score, given by its rows, with tells."""
    # From the last statement to the first one, so that all that is inside of one is there before it.
    blocks = {}
    for position in reversed(range(len(rows))):
        statement, owner, branch = rows[position]
        found = blocks.setdefault((owner, branch), [])
        if statement[0] in ("if", "while"):
            yes, no = [tells.of(statement[1], answer, position) for answer in ("yes", "no")]
            inner = (tuple(yes + blocks.get((position, 0), [])[::-1]),)
            if statement[0] == "if":
                inner += (tuple(no + blocks.get((position, 1), [])[::-1]),)
            else:
                found.extend(no[::-1])
            statement = statement + inner
        found.append(statement)
    return tuple(blocks.get((WHOLE, 0), [])[::-1])


def mended(tree):
    """Returns the tree of a mended score that is clear, or raises InvalidScore."""
    ends = Score(tree).ends
    rows = played_rows(tree)
    tells = Tells(tree)
    while True:
        found = (ends, (), with_tells(rows, tells))
        score = Score(found)
        # Who is told of everything is clear, and who is unclear stays so when others are told.
        unclear = [end for end in ends if end not in tells.told and unclear_ways(score, end) is not None]
        if not unclear:
            return found
        tells.told = [end for end in ends if end in tells.told or end in unclear]
