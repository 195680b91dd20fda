"""What an end saw, told from its deeds (point 41)."""

from onescore.clear import rest
from onescore.meaning import Memory, own_deed
from onescore.numbers import number_of
from onescore.ways import act_at, look_at

# How many trails are made before it is given up, and how many more for each deed.
MOST_TRAILS = 10000
MORE_TRAILS = 4


def answer_of(deed):
    """Returns the answer in a deed, or nothing if it has none."""
    return deed[-1] if deed[0] in ("if", "while") else ""


def goal_behind(score, position, deed):
    """Returns where it goes on behind a deed of the statement at a position."""
    return score.next[position][1 if answer_of(deed) == "no" else 0]


def own_memory(deeds):
    """Returns the memory of an end whose inputs are the numbers that it took by its deeds."""
    return Memory([deed[3] for deed in deeds if deed[0] == "ask"])


def deed_at(score, position, end, memory, number):
    """Does what the statement at a position asks of an end; returns the deed. A letter that it gets has this number."""
    statement = score.statements[position]
    kind = statement[0]
    if kind != "message":
        parts = (position,) + statement[2:] if kind == "while" else statement[2:]
        return own_deed(memory, end, (kind,) + parts)
    _, sender, receiver, label, value, variable = statement
    if sender == end:
        return ("send", end, receiver, label, number_of(value, memory.variables))
    return ("get", end, sender, label, memory.keep(variable, number))


class Trail:
    """One row of looks with which an end does its deeds."""

    def __init__(self, memory, places, last):
        self.memory = memory
        # The positions behind the last look, and the index of that look among those of all trails.
        self.places = places
        self.last = last

    def memory_key(self):
        """Returns what trails share that remember the same, behind the same deeds."""
        return (tuple(sorted(self.memory.variables.items())), tuple(sorted(self.memory.rounds.items())))


class Trails:
    """All rows of looks with which an end does its deeds, whatever the others decide.

    For a clear score, there is only one, and the numbers in the deeds need not
    be looked at: the end follows its table in one way only. If they are looked
    at, there may be very many; then it is given up, and there are no rows.
    """

    def __init__(self, score, end, deeds, by_numbers):
        self.score = score
        self.end = end
        self.by_numbers = by_numbers
        many = len(score.statements)
        self.acts = [act_at(score, position, end) for position in range(many)]
        self.rests = [rest(score, end, [position]) for position in range(many + 1)]
        self.groups = {}
        # Pairs of the index of the look before and a look.
        self.looks = []
        # Whether no place was left out as the double of another one.
        self.is_whole = True
        self.rows = [Trail(own_memory(deeds), (0,), -1)]
        most = MOST_TRAILS + MORE_TRAILS * len(deeds)
        for deed in deeds:
            self.follow(deed)
            if by_numbers and len(self.looks) > most:
                self.rows = []
                break

    def follow(self, deed):
        """Lets all trails go on by a deed."""
        found = []
        for trail in self.rows:
            found.extend(self.trails_behind(trail, deed))
        self.rows = self.without_doubles(found)

    def groups_behind(self, places):
        """Returns a list of lists of the positions at which the end does the same next, for a tuple of places."""
        if places not in self.groups:
            groups = {}
            for position in sorted({reached for place in places for reached in self.rests[place]}):
                if position < len(self.acts) and self.acts[position] is not None:
                    groups.setdefault(self.acts[position], []).append(position)
            self.groups[places] = list(groups.values())
        return self.groups[places]

    def trails_behind(self, trail, deed):
        """Returns the list of the trails that go on from a trail by a deed."""
        found = []
        for positions in self.groups_behind(trail.places):
            memory = trail.memory.copied()
            done = deed_at(self.score, positions[0], self.end, memory, deed[-1])
            if done == deed or (not self.by_numbers and done[:-1] == deed[:-1]):
                places = sorted({goal_behind(self.score, position, deed) for position in positions})
                self.looks.append((trail.last, look_at(self.score, positions[0], answer_of(deed), self.end)))
                found.append(Trail(memory, tuple(places), len(self.looks) - 1))
        return found

    def without_doubles(self, trails):
        """Returns trails without places at which a trail before that remembers the same is, too."""
        if len(trails) < 2:
            return trails
        taken = {}
        found = []
        for trail in trails:
            key = trail.memory_key() if self.by_numbers else ()
            places = tuple([place for place in trail.places if (key, place) not in taken])
            taken.update({(key, place): True for place in places})
            if len(places) < len(trail.places):
                self.is_whole = False
            if places:
                found.append(Trail(trail.memory, places, trail.last))
        return found

    def is_certain(self):
        """Tells whether there is no other row of looks than that of the first trail."""
        return self.is_whole and len(self.rows) == 1

    def first_looks(self):
        """Returns the list of the looks of the first trail."""
        found = []
        at = self.rows[0].last
        while at >= 0:
            at, look = self.looks[at]
            found.append(look)
        return found[::-1]
