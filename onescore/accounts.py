"""Accounts of what the ends saw (points 41 and 42)."""

from onescore.errors import TooLarge, UnknownEnd
from onescore.partial import Search
from onescore.runs import AllAtOnce, OneByOne
from onescore.trails import Trails
from onescore.trees import key_of
from onescore.ways import concerns, look_at, steps_at

MOST_LOOKS = 60


def checked_looks(score, account):
    """Returns a dict from each end to the list of the keys of its looks, or raises UnknownEnd or TooLarge."""
    if sorted(account) != sorted(score.ends):
        raise UnknownEnd("the account has not the ends of the score as keys")
    if sum([len(account[end]) for end in score.ends]) > MOST_LOOKS:
        raise TooLarge("the account has too many looks")
    return {end: [key_of(look) for look in account[end]] for end in score.ends}


def fits(score, position, answer, left):
    """Tells whether each end that a step concerns sees next what it gives; left has their looks, the next one last."""
    for end in score.ends:
        if concerns(score, position, end):
            if not left[end] or left[end][-1] != key_of(look_at(score, position, answer, end)):
                return False
    return True


def explanation(score, account):
    """Returns a way that explains an account, or None if there is none."""
    looks = checked_looks(score, account)
    left = {end: looks[end][::-1] for end in score.ends}
    way = []
    position = 0
    # Each step is a look of an end: so the looks tell each step, and where the way stops.
    while any([len(left[end]) > 0 for end in score.ends]):
        steps = [step for step in steps_at(score, position) if fits(score, position, step[0], left)]
        if not steps:
            return None
        answer, goal = steps[0]
        way.append((position, answer))
        for end in score.ends:
            if concerns(score, position, end):
                left[end].pop()
        position = goal
    return way


def part_explanation(score, account):
    """Returns a way that explains an account in part, or None if there is none."""
    return Search(score, checked_looks(score, account)).way()


def looks_of(deeds, score, end):
    """Returns the list of the looks of an end whose deeds begin a row of a plain run."""
    by_labels = Trails(score, end, deeds, False)
    if by_labels.is_certain():
        return by_labels.first_looks()
    by_numbers = Trails(score, end, deeds, True)
    if by_numbers.is_certain():
        return by_numbers.first_looks()
    # Which of several rows of looks belongs to a plain run depends on the others, too.
    looks = OneByOne(score, end, deeds).found_looks()
    if looks is None:
        looks = AllAtOnce(score, end, deeds).found_looks()
    if looks is not None:
        return looks
    return by_numbers.first_looks() if by_numbers.rows else by_labels.first_looks()
