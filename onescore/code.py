"""Code for a small machine: how it is made from tables, and when it is sound (points 36 to 38)."""

from onescore.instructions import ANSWERS, FORMS, SIGN_WORDS, SIGNS
from onescore.numbers import parts_first
from onescore.reader import MODULUS

MOST_HEIGHT = 40
# Heights that code for a sign needs by itself, whichever part it computes first.
OWN_HEIGHT = 3


def negation():
    """Returns the instructions that make -n of the top number n."""
    return [("push", MODULUS - 1), ("mul",)]


def reflection():
    """Returns the instructions that make 4294967295 - n of the top number n: of two numbers, the other is less then."""
    return negation() + [("push", MODULUS - 1), ("add",)]


def right_first(sign, left, right):
    """Returns the code of a sign that computes its right part first, from the codes of its parts."""
    if sign == "-":
        return right + left + [("sub",)] + negation()
    if sign == "<":
        return right + reflection() + left + reflection() + [("less",)]
    return right + left + [(SIGN_WORDS[sign],)]


def joined(sign, left, right):
    """Returns the height and the code of a sign, from those of its parts."""
    # The part that needs more is computed first: so the pile stays low however deep a value is.
    if right[0] >= OWN_HEIGHT and right[0] > left[0]:
        return (right[0], right_first(sign, left[1], right[1]))
    return (max(left[0], right[0] + 1), left[1] + right[1] + [(SIGN_WORDS[sign],)])


def value_code(value):
    """Returns the list of the instructions that put the number of a value on the pile."""
    pile = []
    for part in parts_first(value):
        if part[0] == "number":
            pile.append((1, [("push", part[1] % MODULUS)]))
        elif part[0] == "name":
            pile.append((1, [("load", part[1])]))
        else:
            right = pile.pop()
            left = pile.pop()
            pile.append(joined(part[0], left, right))
    return pile[0][1]


def decision_code(state, start, starts):
    """Returns what state_code returns for a state of kind if or while."""
    yes, no = [starts[goal] for goal in state[-2:]]
    if state[0] == "while":
        head = [("round", state[1], no)] + value_code(state[2])
        notes = [("yes", state[1]), ("no", state[1])]
    else:
        head = value_code(state[1])
        notes = [("test", "yes"), ("test", "no")]
    behind_yes = start + len(head) + 3
    return head + [("zero", behind_yes), notes[0], ("jump", yes), notes[1], ("jump", no)]


def state_code(state, start, starts):
    """Returns the list of the instructions of a state, which begin at instruction start.

    starts has the instruction at which each state begins.
    """
    kind = state[0]
    if kind == "send":
        return value_code(state[3]) + [("emit", state[1], state[2]), ("jump", starts[state[4]])]
    if kind == "get":
        choices = [(label, variable, starts[goal]) for label, variable, goal in state[2]]
        return [("wait", state[1], tuple(choices))]
    if kind == "set":
        return value_code(state[2]) + [("store", state[1]), ("jump", starts[state[3]])]
    if kind == "ask":
        return [("input", state[1]), ("jump", starts[state[2]])]
    return [("stop",)] if kind == "end" else decision_code(state, start, starts)


def code_of(table):
    """Returns sound code that does what a table does."""
    # How long the code of a state is does not depend on where it and others begin.
    nowhere = [0] * len(table)
    starts = []
    many = 0
    for state in table:
        starts.append(many)
        many += len(state_code(state, 0, nowhere))
    code = []
    for state, start in zip(table, starts):
        code.extend(state_code(state, start, starts))
    return tuple(code)


def is_number(part, bound):
    """Tells whether a part of an instruction is a number below a bound."""
    return isinstance(part, int) and 0 <= part < bound


def is_choice(choice, many):
    """Tells whether a part of choices is one in code of so many instructions."""
    if not isinstance(choice, tuple) or len(choice) != 3:
        return False
    label, variable, goal = choice
    return isinstance(label, str) and isinstance(variable, str) and is_number(goal, many)


def are_choices(part, many):
    """Tells whether a part of a wait are its choices."""
    if not isinstance(part, tuple) or not part or not all([is_choice(choice, many) for choice in part]):
        return False
    return all([part[at - 1][0] < part[at][0] for at in range(1, len(part))])


def is_part(sort, part, ends, many):
    """Tells whether a part of an instruction is of a sort of parts, in code of so many instructions."""
    if sort == "number":
        return is_number(part, MODULUS)
    if sort == "goal":
        return is_number(part, many)
    if sort == "choices":
        return are_choices(part, many)
    if sort == "answer":
        return part in ANSWERS
    return isinstance(part, str) and (sort == "name" or part in ends)


def is_instruction(instruction, ends, many):
    """Tells whether a tuple that begins with a string is an instruction, in code of so many."""
    word = instruction[0]
    if word not in FORMS or len(instruction) != len(FORMS[word]) + 1:
        return False
    return all([is_part(sort, part, ends, many) for sort, part in zip(FORMS[word], instruction[1:])])


def goals_behind(code, at):
    """Returns the list of the instructions that can come behind one, the one behind the last one counted in."""
    word = code[at][0]
    if word == "stop":
        return []
    if word == "jump":
        return [code[at][1]]
    if word == "wait":
        return [choice[2] for choice in code[at][2]]
    return [code[at][-1], at + 1] if word in ("zero", "round") else [at + 1]


def quiet_goals(code, at):
    """Returns the list of the instructions that can come behind one without a deed."""
    word = code[at][0]
    if word == "round":
        return [at + 1]
    return goals_behind(code, at) if word in ("push", "load", "jump", "zero") or word in SIGNS else []


def height_behind(word, height):
    """Returns the height of the pile behind an instruction, or -1 if it cannot be done at a height."""
    if word in ("stop", "wait"):
        return -1 if height > 0 else 0
    if word in SIGNS:
        return height - 1 if height > 1 else -1
    if word in ("push", "load"):
        return height + 1
    return height - 1 if word in ("store", "zero", "emit") else height


def reached_heights(code):
    """Returns the dict from each instruction that can be reached to its height, or None if they have none."""
    heights = {0: 0}
    waiting = [0]
    while waiting:
        at = waiting.pop()
        behind = height_behind(code[at][0], heights[at])
        if behind < 0 or heights[at] > MOST_HEIGHT:
            return None
        for goal in goals_behind(code, at):
            if goal == len(code) or heights.get(goal, behind) != behind:
                return None
            if goal not in heights:
                heights[goal] = behind
                waiting.append(goal)
    return heights


def has_quiet_circle(code, reached):
    """Tells whether a circle of instructions that are reached has no step with a deed."""
    before = {at: 0 for at in reached}
    for at in reached:
        for goal in quiet_goals(code, at):
            before[goal] += 1
    # Whatever has nothing before it is in no circle, and is left out, again and again.
    waiting = [at for at in reached if before[at] == 0]
    many = 0
    while waiting:
        many += 1
        for goal in quiet_goals(code, waiting.pop()):
            before[goal] -= 1
            if before[goal] == 0:
                waiting.append(goal)
    return many < len(reached)


def is_sound(ends, code):
    """Tells whether a tuple of tuples that begin with a string is sound code for a tuple of ends."""
    if not code or not all([is_instruction(instruction, ends, len(code)) for instruction in code]):
        return False
    heights = reached_heights(code)
    return heights is not None and not has_quiet_circle(code, sorted(heights))
