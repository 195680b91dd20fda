"""Ways through a played out score, and what an end sees of them (points 9 to 11)."""


def steps_at(score, position):
    """Returns the pairs (answer, next position) of a position; end has none."""
    if position == len(score.statements):
        return []
    answers = ("yes", "no") if score.statements[position][0] in ("if", "while") else ("",)
    return list(zip(answers, score.next[position]))


def is_way(score, way):
    """Tells whether a list of pairs of an integer and a string is a way."""
    place_now = 0
    for position, answer in way:
        goals = [goal for word, goal in steps_at(score, place_now) if word == answer]
        if position != place_now or not goals:
            return False
        place_now = goals[0]
    return True


def place(score, way):
    """Returns the position behind the last step of a way."""
    if not way:
        return 0
    position, answer = way[-1]
    return score.next[position][1 if answer == "no" else 0]


def concerns(score, position, end):
    """Tells whether the statement at a position other than end concerns an end."""
    statement = score.statements[position]
    return statement[1] == end or (statement[0] == "message" and statement[2] == end)


def look_at(score, position, answer, end):
    """Returns what an end sees of a step that concerns it."""
    statement = score.statements[position]
    kind = statement[0]
    if kind == "message":
        _, sender, receiver, label, value, variable = statement
        return ("send", receiver, label, value) if sender == end else ("get", sender, label, variable)
    if kind == "if":
        return (kind, statement[2], answer)
    if kind == "while":
        return (kind, position, statement[2], answer)
    return (kind,) + statement[2:]


def seen(score, way, end):
    """Returns the list of the looks of an end."""
    return [look_at(score, position, answer, end) for position, answer in way if concerns(score, position, end)]


def act_at(score, position, end):
    """Returns what an end must do at a position, or None if it need not act there.

    Acts are looks without answers, and with numbers of values instead of
    values, so that they can be compared however deep the values are.
    """
    if position == len(score.statements):
        return ("end",)
    if not concerns(score, position, end):
        return None
    statement = score.statements[position]
    kind = statement[0]
    value = score.value_numbers[position]
    if kind == "message":
        _, sender, receiver, label, _, variable = statement
        return ("send", receiver, label, value) if sender == end else ("get", sender, label, variable)
    if kind == "set":
        return (kind, statement[2], value)
    if kind == "ask":
        return (kind, statement[2])
    return (kind, value) if kind == "if" else (kind, position)


def acts_agree(first, second):
    """Tells whether two acts of the same end agree."""
    if first[:2] == second[:2] and first[0] == "get":
        return first[2] != second[2] or first[3] == second[3]
    return first == second


def agree(score, end, first, second):
    """Tells whether two positions, at which an end must act, agree."""
    return acts_agree(act_at(score, first, end), act_at(score, second, end))
