"""What comes before what in a plain run, clocks and rounds (points 43 and 44)."""

from onescore.meaning import is_within


def clocks(run):
    """Returns the list of the clocks of all deeds."""
    return list(run.clocks)


def comes_before(run, first, second):
    """Tells whether the deed with the index first comes before the deed with the index second."""
    return first != second and is_within(run.clocks[first], run.clocks[second])


def apart(run, first, second):
    """Tells whether two different deeds are apart."""
    return first != second and not comes_before(run, first, second) and not comes_before(run, second, first)


def rounds(run):
    """Returns the list of the rounds of all deeds."""
    latest = {}
    found = []
    for deed in run.deeds:
        number = latest.get(deed[1], 1)
        if deed[0] == "get":
            # The send of the same message is the deed directly before: its letter is there one round later.
            number = max(number, found[-1] + 1)
        latest[deed[1]] = number
        found.append(number)
    return found
