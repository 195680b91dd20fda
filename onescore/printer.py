"""From trees to texts that write them (points 4 to 6)."""

COMPARISONS = ("<", "==")
SUMS = ("+", "-")


def needs_brackets(part, sign, is_right):
    """Tells whether a part of a value stands in brackets beside a sign."""
    if part[0] in COMPARISONS:
        return True
    if part[0] in SUMS:
        return sign == "*" or (is_right and sign in SUMS)
    return part[0] == "*" and sign == "*" and is_right


def value_pieces(tree):
    """Returns the pieces of a value in order: texts, and the parts beside its sign as trees."""
    if tree[0] in ("number", "name"):
        return [str(tree[1])]
    sign, left, right = tree
    pieces = ["(", left, ")"] if needs_brackets(left, sign, False) else [left]
    pieces.append(f" {sign} ")
    return pieces + (["(", right, ")"] if needs_brackets(right, sign, True) else [right])


def print_value(tree):
    """Returns the text of a tree of a value."""
    # Without recursion: 1 + 1 + 1 .. makes trees that are very deep on the left.
    text = []
    waiting = [tree]
    while waiting:
        piece = waiting.pop()
        if isinstance(piece, str):
            text.append(piece)
        else:
            waiting.extend(value_pieces(piece)[::-1])
    return "".join(text)


def with_commas(names):
    """Returns the pieces of names with commas between them."""
    pieces = []
    for name in names:
        pieces.extend([",", name])
    return pieces[1:]


def statement_pieces(statement):
    """Returns the pieces of a statement in order: texts, and the blocks inside of it as tuples."""
    kind = statement[0]
    if kind == "message":
        _, sender, receiver, label, value, variable = statement
        return [sender, "->", receiver, ":", label, "(", print_value(value), ")", "as", variable]
    if kind == "set":
        return [statement[1], "sets", statement[2], "=", print_value(statement[3])]
    if kind == "ask":
        return [statement[1], "asks", statement[2]]
    if kind == "call":
        return ["call", statement[1], "("] + with_commas(statement[2]) + [")"]
    pieces = [kind, statement[1], ":", print_value(statement[2]), statement[3]]
    return pieces + ["else", statement[4]] if kind == "if" else pieces


def block_pieces(block):
    """Returns the pieces of a block in order: texts, and the blocks inside of it as tuples."""
    pieces = ["{"]
    for statement in block:
        pieces.extend(statement_pieces(statement))
    return pieces + ["}"]


def tree_pieces(tree):
    """Returns the pieces of a whole tree in order: texts, and blocks as tuples."""
    ends, parts, block = tree
    pieces = ["ends"] + with_commas(ends)
    for name, parameters, inner in parts:
        pieces.extend(["part", name, "("] + with_commas(parameters) + [")", inner])
    return pieces + ["play", block]


def is_part_of_word(sign):
    """Tells whether a character would grow together with another such one beside it."""
    return sign.isalnum() or sign == "_"


def print_tree(tree):
    """Returns a text that read_tree reads as a tree, as short as its pieces allow."""
    text = []
    last = " "
    waiting = tree_pieces(tree)[::-1]
    while waiting:
        piece = waiting.pop()
        if not isinstance(piece, str):
            waiting.extend(block_pieces(piece)[::-1])
            continue
        if is_part_of_word(last[-1]) and is_part_of_word(piece[0]):
            text.append(" ")
        text.append(piece)
        last = piece
    return "".join(text)
