"""Watchers, who see only the letters of an end (point 34)."""

from onescore.errors import UnknownEnd


def letter_at(score, position, end):
    """Returns what a watcher of an end sees of a statement, or None if that is nothing."""
    if position == len(score.statements) or score.statements[position][0] != "message":
        return None
    _, sender, receiver, label, _, _ = score.statements[position]
    if sender == end:
        return ("send", receiver, label)
    return ("get", sender, label) if receiver == end else None


def places_behind(score, end, positions):
    """Returns the ascending list of the positions that can be reached from some without a letter of an end."""
    reached = set()
    waiting = list(positions)
    while waiting:
        position = waiting.pop()
        if position in reached:
            continue
        reached.add(position)
        if position < len(score.statements) and letter_at(score, position, end) is None:
            waiting.extend(score.next[position])
    return sorted(reached)


class Watcher:
    """A watcher of an end of a score."""

    def __init__(self, score, end):
        if end not in score.ends:
            raise UnknownEnd("there is no such end")
        self.score = score
        self.end = end
        # Where a way can be of which the watcher sees what it saw; nowhere behind a blame.
        self.places = places_behind(score, end, [0])

    def see(self, letter):
        """Sees a letter; tells whether the row of all that was seen is possible."""
        goals = [self.score.next[place][0] for place in self.places
                 if letter_at(self.score, place, self.end) == letter]
        self.places = places_behind(self.score, self.end, goals)
        return len(self.places) > 0

    def send(self, to, label):
        """Sees a letter that the end sends; tells whether the row of all that was seen is possible."""
        return self.see(("send", to, label))

    def get(self, other, label):
        """Sees a letter that the end gets; tells whether the row of all that was seen is possible."""
        return self.see(("get", other, label))

    def next_letters(self):
        """Returns the ascending list of the letters with which the row would be possible."""
        letters = [letter_at(self.score, place, self.end) for place in self.places]
        return sorted(set([letter for letter in letters if letter is not None]))
