"""Statements that may be exchanged (point 46)."""

from onescore.checks import ends_of
from onescore.errors import InvalidScore
from onescore.trees import inner_blocks, listed


def concerned_ends(statement):
    """Returns the dict of the ends that a statement concerns, those of the statements inside of it, too."""
    return {end: True for inner, _ in listed((statement,)) for end in ends_of(inner)}


def blocks_along(tree, path):
    """Returns the list of the blocks that a path goes through, or an empty one if it leads to no statement."""
    if len(path) % 2 == 0:
        return []
    blocks = [tree[2]]
    for at in range(0, len(path), 2):
        index = path[at]
        if index < 0 or index >= len(blocks[-1]):
            return []
        if at + 1 < len(path):
            inner = inner_blocks(blocks[-1][index])
            branch = path[at + 1]
            if branch < 0 or branch >= len(inner):
                return []
            blocks.append(inner[branch])
    return blocks


def may_exchange(tree, path):
    """Tells whether the statement at a path and the next one in its block may be exchanged."""
    blocks = blocks_along(tree, path)
    if not blocks or path[-1] + 1 == len(blocks[-1]):
        return False
    first, second = blocks[-1][path[-1]:path[-1] + 2]
    ends = concerned_ends(second)
    return not any([end in ends for end in concerned_ends(first)])


def exchanged(tree, path):
    """Returns the tree in which the statement at a path and the next one are exchanged, or raises InvalidScore."""
    if not may_exchange(tree, path):
        raise InvalidScore("exchange")
    blocks = blocks_along(tree, path)
    index = path[-1]
    block = blocks[-1]
    block = block[:index] + (block[index + 1], block[index]) + block[index + 2:]
    # From the innermost block outwards, each one is put into its statement.
    for at in reversed(range(1, len(path), 2)):
        outer = blocks[at // 2]
        index = path[at - 1]
        place = 3 + path[at]
        statement = outer[index][:place] + (block,) + outer[index][place + 1:]
        block = outer[:index] + (statement,) + outer[index + 1:]
    return (tree[0], tree[1], block)
