"""What several modules need to go through trees.

Trees are gone through without recursion: a value may be thousands of signs
deep, as 1 + 1 + 1 .. makes it, and parts that play parts may nest blocks.
"""


def key_of(tree):
    """Returns a flat tuple that equal trees of tuples, strings and integers share, and no others."""
    parts = []
    waiting = [tree]
    while waiting:
        part = waiting.pop()
        if isinstance(part, tuple):
            # The length tells where the parts of this tuple stop.
            parts.append((len(part),))
            waiting.extend(part)
        else:
            parts.append(part)
    return tuple(parts)


def numbered(keys):
    """Returns a number for each of a list of keys, from 0 on, the same one for equal keys only."""
    numbers = {}
    for key in keys:
        numbers.setdefault(key, len(numbers))
    return [numbers[key] for key in keys]


def inner_blocks(statement):
    """Returns the blocks inside of a statement, in the order of the text."""
    if statement[0] == "if":
        return [statement[3], statement[4]]
    if statement[0] == "while":
        return [statement[3]]
    return []


def listed(block):
    """Returns pairs of each statement and the number of whiles around it, in the order of the text."""
    found = []
    waiting = [(statement, 0) for statement in block[::-1]]
    while waiting:
        statement, loops = waiting.pop()
        found.append((statement, loops))
        if statement[0] == "while":
            loops += 1
        for inner in inner_blocks(statement)[::-1]:
            waiting.extend([(part, loops) for part in inner[::-1]])
    return found
