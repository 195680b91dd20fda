"""The rules that the tree of a score must keep (point 7)."""

from onescore.errors import InvalidScore
from onescore.trees import listed

MOST_ENDS = 6
MOST_LOOPS = 3
MOST_STATEMENTS = 150


def are_different(names):
    """Tells whether no two names are alike."""
    return len(set(names)) == len(names)


def ends_of(statement):
    """Returns the ends that a statement names."""
    if statement[0] == "message":
        return (statement[1], statement[2])
    if statement[0] == "call":
        return statement[2]
    return (statement[1],)


def is_right_call(statement, counts):
    """Tells whether a call names a part of which counts has the number of parameters, with as many ends."""
    _, part, ends = statement
    return part in counts and len(ends) == counts[part] and are_different(ends)


def check_names(ends, parts):
    """Raises InvalidScore if there are too many ends, or names that must be different are not."""
    if len(ends) > MOST_ENDS or not are_different(ends):
        raise InvalidScore("ends")
    if not are_different([part[0] for part in parts]):
        raise InvalidScore("parts")
    for part in parts:
        if not are_different(part[1]):
            raise InvalidScore("parameters")


def check_statement(statement, ends, counts):
    """Raises InvalidScore if a statement by itself breaks a rule where these ends are known."""
    if statement[0] == "call" and not is_right_call(statement, counts):
        raise InvalidScore("call")
    for end in ends_of(statement):
        if end not in ends:
            raise InvalidScore("unknown")
    if statement[0] == "message" and statement[1] == statement[2]:
        raise InvalidScore("self")


def check_block(block, ends, counts):
    """Raises InvalidScore if a statement of a block by itself breaks a rule."""
    for statement, _ in listed(block):
        check_statement(statement, ends, counts)


def played_size(block, sizes):
    """Returns the number of statements of a block and of its whiles inside of each other, both played out.

    sizes has these two numbers for each part that the block calls.
    """
    many = 0
    depth = 0
    for statement, loops in listed(block):
        if statement[0] == "call":
            inner_many, inner_depth = sizes[statement[1]]
            many += inner_many
            depth = max(depth, loops + inner_depth)
        else:
            many += 1
            depth = max(depth, loops + 1 if statement[0] == "while" else loops)
    return (many, depth)


def part_sizes(parts):
    """Returns a dict from each part to its played_size, or None if parts call each other in circles."""
    # Each part is measured once, behind those that it calls: playing it out
    # could take far too long.
    blocks = {part[0]: part[2] for part in parts}
    callers = {name: [] for name in blocks}
    missing = {}
    for name in blocks:
        called = sorted({statement[1] for statement, _ in listed(blocks[name]) if statement[0] == "call"})
        missing[name] = len(called)
        for other in called:
            callers[other].append(name)
    ready = [name for name in blocks if missing[name] == 0]
    sizes = {}
    while ready:
        name = ready.pop()
        sizes[name] = played_size(blocks[name], sizes)
        for caller in callers[name]:
            missing[caller] -= 1
            if missing[caller] == 0:
                ready.append(caller)
    return sizes if len(sizes) == len(blocks) else None


def check_tree(tree):
    """Raises InvalidScore if the tree of a score breaks a rule."""
    ends, parts, block = tree
    check_names(ends, parts)
    counts = {part[0]: len(part[1]) for part in parts}
    for part in parts:
        check_block(part[2], part[1], counts)
    check_block(block, ends, counts)
    sizes = part_sizes(parts)
    if sizes is None:
        raise InvalidScore("circle")
    many, depth = played_size(block, sizes)
    if depth > MOST_LOOPS:
        raise InvalidScore("loops")
    if many > MOST_STATEMENTS:
        raise InvalidScore("large")
