"""The numbers of values (points 6 and 17)."""

from onescore.reader import MODULUS


def combined(sign, left, right):
    """Returns what a sign makes of two numbers."""
    if sign == "<":
        return 1 if left < right else 0
    if sign == "==":
        return 1 if left == right else 0
    if sign == "+":
        return (left + right) % MODULUS
    if sign == "-":
        return (left - right) % MODULUS
    return left * right % MODULUS


def parts_first(tree):
    """Returns the list of all trees inside of a tree and itself, each one behind its parts."""
    found = []
    waiting = [tree]
    while waiting:
        part = waiting.pop()
        found.append(part)
        if part[0] not in ("number", "name"):
            waiting.extend(part[1:])
    return found[::-1]


def number_of(tree, variables):
    """Returns the number of a tree of a value; names that are not in the dict variables count 0."""
    pile = []
    for part in parts_first(tree):
        if part[0] == "number":
            pile.append(part[1] % MODULUS)
        elif part[0] == "name":
            pile.append(variables.get(part[1], 0) % MODULUS)
        else:
            right = pile.pop()
            left = pile.pop()
            pile.append(combined(part[0], left, right))
    return pile[0]
