"""Played out scores (point 8)."""

from onescore.checks import check_tree, part_sizes
from onescore.reader import read_tree
from onescore.trees import inner_blocks, key_of, numbered

WHOLE = -1
VALUE_PLACES = {"message": 4, "set": 3, "if": 2, "while": 2}


def renamed(statement, names):
    """Returns a statement without the blocks inside of it, with the ends that names tells for its own."""
    kind = statement[0]
    end = names[statement[1]]
    if kind == "message":
        return (kind, end, names[statement[2]], statement[3], statement[4], statement[5])
    if kind in ("if", "while"):
        return (kind, end, statement[2])
    return (kind, end) + statement[2:]


def tasks(block, names, owner, branch):
    """Returns what is to be played of a block, the first statement last.

    owner is the position of the if or while to which the block belongs, and
    branch tells which of its blocks it is.
    """
    return [(statement, names, owner, branch) for statement in block[::-1]]


def call_tasks(statement, names, owner, branch, blocks):
    """Returns what is to be played for a call."""
    parameters, block = blocks[statement[1]]
    inner = {parameter: names[end] for parameter, end in zip(parameters, statement[2])}
    return tasks(block, inner, owner, branch)


def played_rows(tree):
    """Returns a row (statement, owner, branch) for each position."""
    ends, parts, block = tree
    sizes = part_sizes(parts)
    # Calls of parts without statements are left out: there may be very many of them.
    blocks = {part[0]: (part[1], part[2]) for part in parts if sizes[part[0]][0] > 0}
    rows = []
    waiting = tasks(block, {end: end for end in ends}, WHOLE, 0)
    while waiting:
        statement, names, owner, branch = waiting.pop()
        if statement[0] != "call":
            inner = inner_blocks(statement)
            for at in reversed(range(len(inner))):
                waiting.extend(tasks(inner[at], names, len(rows), at))
            rows.append((renamed(statement, names), owner, branch))
        elif statement[1] in blocks:
            waiting.extend(call_tasks(statement, names, owner, branch, blocks))
    return rows


def next_position(rows, position, followers, behind):
    """Returns where it goes on behind a whole statement; behind has this for all before."""
    owner = rows[position][1]
    if position in followers:
        return followers[position]
    if owner == WHOLE:
        return len(rows)
    return owner if rows[owner][0][0] == "while" else behind[owner]


def next_positions(rows):
    """Returns the tuple of the next positions for each position."""
    firsts = {}
    lasts = {}
    followers = {}
    for position, (_, owner, branch) in enumerate(rows):
        if (owner, branch) in lasts:
            followers[lasts[(owner, branch)]] = position
        else:
            firsts[(owner, branch)] = position
        lasts[(owner, branch)] = position
    behind = []
    goals = []
    for position, (statement, _, _) in enumerate(rows):
        goal = next_position(rows, position, followers, behind)
        behind.append(goal)
        if statement[0] == "if":
            goals.append((firsts.get((position, 0), goal), firsts.get((position, 1), goal)))
        elif statement[0] == "while":
            goals.append((firsts.get((position, 0), position), goal))
        else:
            goals.append((goal,))
    return tuple(goals)


def value_of(statement):
    """Returns the value of a played out statement, or None if it has none."""
    kind = statement[0]
    return statement[VALUE_PLACES[kind]] if kind in VALUE_PLACES else None


class Score:
    """A played out score."""

    def __init__(self, tree):
        check_tree(tree)
        rows = played_rows(tree)
        self.ends = tuple(tree[0])
        self.statements = tuple(row[0] for row in rows)
        self.next = next_positions(rows)
        # Deep values are compared once, here, and by their numbers from then on.
        self.value_numbers = tuple(numbered([key_of(value_of(statement)) for statement in self.statements]))


def read_score(text):
    """Returns the Score of a text, or raises SyntaxProblem or InvalidScore."""
    return Score(read_tree(text))
