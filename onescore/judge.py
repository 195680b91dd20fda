"""The judge of papers (points 14 and 16)."""

from onescore.clear import rest
from onescore.tables import goals_of, plan, with_goals
from onescore.trees import key_of
from onescore.ways import act_at, acts_agree


def without_goals(state):
    """Returns what equal states share, whatever their numbers of the states behind are."""
    return key_of(with_goals(state, [0] * len(goals_of(state))))


def is_note(score, note):
    """Tells whether a tuple of integers is an ascending tuple of different positions."""
    if list(note) != sorted(set(note)):
        return False
    return all([0 <= position <= len(score.statements) for position in note])


def all_agree(acts):
    """Tells whether each two of the acts of an end agree."""
    variables = {}
    for act in acts:
        # Gets with different labels agree: each one is compared with the first one of its label.
        label = act[2] if act[0] == "get" else ""
        if not acts_agree(acts[0], act) or not acts_agree(variables.setdefault(label, act), act):
            return False
    return True


def sets_behind(state, groups, notes, rests):
    """Tells whether the note of each state behind a state is the set behind its look."""
    for goal, group in zip(goals_of(state), groups):
        if goal < 0 or goal >= len(notes):
            return False
        if list(notes[goal]) != sorted({position for place in group for position in rests[place]}):
            return False
    return True


def is_right(score, end, table, notes):
    """Tells whether a table is right for an end with these notes."""
    rests = [rest(score, end, [position]) for position in range(len(score.statements) + 1)]
    acts = [act_at(score, position, end) for position in range(len(score.statements) + 1)]
    if len(table) != len(notes) or not table or list(notes[0]) != rests[0]:
        return False
    if not all([is_note(score, note) for note in notes]):
        return False
    for state, note in zip(table, notes):
        acting = [position for position in note if acts[position] is not None]
        if not acting or not all_agree([acts[position] for position in acting]):
            return False
        asked, groups = plan(score, end, acting)
        if without_goals(state) != without_goals(asked) or not sets_behind(state, groups, notes, rests):
            return False
    return True


def judge(score, given):
    """Tells whether a dict from strings to pairs of a table and notes is a paper for a score."""
    # Each end has a right table only if the score is clear: nothing else needs to be looked at.
    if sorted(given) != sorted(score.ends):
        return False
    return all([is_right(score, end, given[end][0], given[end][1]) for end in score.ends])
