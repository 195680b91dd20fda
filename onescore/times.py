"""Where a run is, and how many rounds it is in there."""


def body_of(score, loop):
    """Returns the ascending list of the positions inside of a while."""
    reached = {loop}
    waiting = [score.next[loop][0]]
    while waiting:
        position = waiting.pop()
        if position not in reached:
            reached.add(position)
            waiting.extend(score.next[position])
    return [position for position in sorted(reached) if position != loop]


class Times:
    """The times of a score: tuples that grow from each step of a run to the next one.

    A time has each while around a position, from the outside, with the number
    of its yes before this round, and then the position; behind it, if it is a
    while itself, the number of its yes so far.
    """

    def __init__(self, score):
        self.loops = [position for position, statement in enumerate(score.statements) if statement[0] == "while"]
        self.around = [[] for _ in range(len(score.statements) + 1)]
        for loop in self.loops:
            for position in body_of(score, loop):
                self.around[position].append(loop)
        self.first = self.behind((), 0)

    def place(self, time):
        """Returns the position at a time."""
        return time[-1] if len(time) & 1 == 1 else time[-2]

    def behind(self, time, goal):
        """Returns the time at which a run comes from a time to its next position."""
        counts = {loop: many for loop, many in zip(time[::2], time[1::2])}
        found = [part for loop in self.around[goal] for part in (loop, counts[loop])] + [goal]
        if goal in self.loops:
            found.append(counts[goal] + 1 if goal in counts else 0)
        return tuple(found)
