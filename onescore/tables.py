"""Tables, the programs of ends (points 13 to 16)."""

from onescore.clear import rest, witness
from onescore.errors import TooLarge, Unclear
from onescore.trees import key_of, numbered
from onescore.ways import act_at, look_at

MOST_STATES = 400


def goals_of(state):
    """Returns the numbers of the states behind a state, in the order in which they stand in it."""
    if state[0] == "get":
        return tuple(choice[2] for choice in state[2])
    if state[0] in ("if", "while"):
        return state[-2:]
    return () if state[0] == "end" else state[-1:]


def with_goals(state, goals):
    """Returns a state with these numbers of the states behind it instead of its own."""
    if state[0] == "get":
        choices = [(label, variable, goal) for (label, variable, _), goal in zip(state[2], goals)]
        return (state[0], state[1], tuple(choices))
    if state[0] in ("if", "while"):
        return state[:-2] + tuple(goals)
    return state if state[0] == "end" else state[:-1] + tuple(goals)


def alike_classes(table):
    """Returns a number for each state of a table, the same one for alike states only."""
    goals = [goals_of(state) for state in table]
    classes = numbered([key_of(with_goals(state, [0] * len(goals_of(state)))) for state in table])
    many = 0
    # States that are told apart by longer and longer runs of looks, until no longer run tells more.
    while len(set(classes)) > many:
        many = len(set(classes))
        classes = numbered([(classes[at], tuple([classes[goal] for goal in goals[at]])) for at in range(len(table))])
    return classes


def alike(table, first, second):
    """Tells whether two states of a table are alike."""
    classes = alike_classes(table)
    return classes[first] == classes[second]


def least_table(table):
    """Returns the least table that has all the runs of a table and no others."""
    classes = alike_classes(table)
    numbers = {classes[0]: 0}
    order = [0]
    done = 0
    while done < len(order):
        state = table[order[done]]
        done += 1
        for goal in goals_of(state):
            if classes[goal] not in numbers:
                numbers[classes[goal]] = len(order)
                order.append(goal)
    return tuple([with_goals(table[at], [numbers[classes[goal]] for goal in goals_of(table[at])]) for at in order])


def get_plan(score, end, acting):
    """Returns what plan returns for positions at which an end gets."""
    choices = {}
    goals = {}
    for position in acting:
        _, sender, label, variable = look_at(score, position, "", end)
        choices[label] = (label, variable, 0)
        goals.setdefault(label, []).append(score.next[position][0])
    labels = sorted(choices)
    return (("get", sender, tuple([choices[label] for label in labels])), [goals[label] for label in labels])


def plan(score, end, acting):
    """Returns what agreeing positions ask for: the state, but for its numbers, and the positions behind each look."""
    first = acting[0]
    if first == len(score.statements):
        return (("end",), [])
    look = look_at(score, first, "", end)
    if look[0] == "get":
        return get_plan(score, end, acting)
    groups = [[score.next[position][at] for position in acting] for at in range(len(score.next[first]))]
    # The answer of an if or while gives way to a second number.
    return (look + (0,), groups)


def right_table(score, end):
    """Returns a right table of an end for which a score is clear, and the tuple of its notes."""
    rests = [rest(score, end, [position]) for position in range(len(score.statements) + 1)]
    acts = [act_at(score, position, end) for position in range(len(score.statements) + 1)]
    notes = [tuple(rests[0])]
    numbers = {notes[0]: 0}
    table = []
    while len(table) < len(notes):
        acting = [position for position in notes[len(table)] if acts[position] is not None]
        state, groups = plan(score, end, acting)
        goals = []
        for group in groups:
            note = tuple(sorted({position for goal in group for position in rests[goal]}))
            if note not in numbers:
                numbers[note] = len(notes)
                notes.append(note)
            goals.append(numbers[note])
        # A right table has a state for each set that can be reached: no other one would be smaller.
        if len(notes) > MOST_STATES:
            raise TooLarge("a table would have too many states")
        table.append(with_goals(state, goals))
    return (tuple(table), tuple(notes))


def paper(score):
    """Returns a dict from each end to its table and notes, or raises Unclear or TooLarge."""
    found = witness(score)
    if found is not None:
        raise Unclear(found[0], found[1], found[2])
    return {end: right_table(score, end) for end in score.ends}


def end_tables(score):
    """Returns the dict from each end to its least table, or raises Unclear or TooLarge."""
    papers = paper(score)
    return {end: least_table(papers[end][0]) for end in papers}
