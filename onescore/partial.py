"""The search for ways that explain accounts in part (point 41).

How much of an account was seen is told by a tuple with a number of looks for
each end. There may be very many ways that come to the same places behind the
same looks, so all places behind the same looks are kept together, as the bits
of one number: bit 0 for position 0, and so on.
"""

from onescore.trees import key_of
from onescore.ways import concerns, look_at, steps_at

NOBODY = -1


def bits_of(positions):
    """Returns the number with the bits of different positions."""
    return sum([1 << position for position in positions])


def steps_of(score, end):
    """Returns a list of tuples (key of the look, position, answer, goal) for all steps that concern an end."""
    return [(key_of(look_at(score, position, answer, end)), position, answer, goal)
            for position in range(len(score.statements)) if concerns(score, position, end)
            for answer, goal in steps_at(score, position)]


def with_ways_to(score, end, places):
    """Returns the places from which some places can be reached without a look of an end, these places included."""
    passed = [at for at in reversed(range(len(score.statements))) if not concerns(score, at, end)]
    before = -1
    while before != places:
        before = places
        for at in passed:
            for goal in score.next[at]:
                places |= (places >> goal & 1) << at
    return places


def hopes(score, end, goals, keys):
    """Returns a list with the places from which an end can see all its looks from a number on, for each number.

    keys has a key for each look, and goals the list of pairs (position, goal)
    of the steps that give it. What the others see is not looked at: where there
    is no hope for one end, there is none for all together.
    """
    found = [bits_of(list(range(len(score.statements) + 1)))]
    before = {}
    for key in keys[::-1]:
        if (key, found[-1]) not in before:
            places = 0
            for position, goal in goals.get(key, []):
                places |= (found[-1] >> goal & 1) << position
            before[(key, found[-1])] = with_ways_to(score, end, places)
        found.append(before[(key, found[-1])])
    return found[::-1]


def goals_of(score, end):
    """Returns a dict from the key of each look of an end to the list of pairs (position, goal) of its steps."""
    goals = {}
    for key, position, _, goal in steps_of(score, end):
        goals.setdefault(key, []).append((position, goal))
    return goals


def own_steps(score, end):
    """Returns a dict from the key of each look of a deed that an end begins to the list of its steps.

    A step is a tuple (position, answer, goal, heard); heard is the key of the
    look of the end that gets the letter, if there is one.
    """
    found = {}
    for key, position, answer, goal in steps_of(score, end):
        statement = score.statements[position]
        if statement[1] == end:
            heard = key_of(look_at(score, position, answer, statement[2])) if statement[0] == "message" else ()
            found.setdefault(key, []).append((position, answer, goal, heard))
    return found


class Search:
    """What is known of an account: looks has the list of the keys of the looks of each end."""

    def __init__(self, score, looks):
        self.score = score
        self.looks = [looks[end] for end in score.ends]
        self.all_seen = tuple([len(row) for row in self.looks])
        self.hopes = [hopes(score, end, goals_of(score, end), looks[end]) for end in score.ends]
        self.steps = [own_steps(score, end) for end in score.ends]
        self.concerned = [[at for at, end in enumerate(score.ends) if concerns(score, position, end)]
                          for position in range(len(score.statements))]
        # From who has seen all the looks to a dict from positions to their rests then.
        self.rests = {}
        # For what was seen: the places that were found behind it, and how it came about, as pairs of what was seen
        # before and the index of the end that did something then.
        self.places = {}
        self.came = {}

    def way(self):
        """Returns a way that explains the account in part, or None if there is none."""
        nothing = tuple([0] * len(self.looks))
        waiting = [(nothing, self.places_behind(nothing, [0]))]
        while waiting:
            seen, places = waiting.pop()
            if seen == self.all_seen and places > 0:
                return self.way_to(seen)
            new = places & ~self.places.get(seen, 0)
            if new > 0:
                self.places[seen] = self.places.get(seen, 0) | new
                waiting.extend(self.grown(seen, new))
        return None

    def grown(self, seen, places):
        """Returns pairs of what can be seen one step later than at some places, and the places behind."""
        found = []
        for at in range(len(seen)):
            steps = self.steps_from(seen, places, at)
            if steps:
                after = self.after(seen, steps[0][0])
                self.came.setdefault(after, []).append((seen, at))
                found.append((after, self.places_behind(after, [step[2] for step in steps])))
        return found

    def steps_from(self, seen, places, at):
        """Returns the steps from some places at which the end with index at does what it sees next."""
        if seen[at] == self.all_seen[at]:
            return []
        steps = [step for step in self.steps[at].get(self.looks[at][seen[at]], []) if places >> step[0] & 1 == 1]
        other = self.hearer(at, steps)
        # Who gets the letters either sees that next, or has seen all its looks.
        if other == NOBODY or seen[other] == self.all_seen[other]:
            return steps
        heard = self.looks[other][seen[other]]
        return [step for step in steps if step[3] == heard]

    def hearer(self, at, steps):
        """Returns the index of the end that gets the letters of steps of the same look of an end, if there is one."""
        others = [other for step in steps[:1] for other in self.concerned[step[0]] if other != at]
        return others[0] if others else NOBODY

    def after(self, seen, position):
        """Returns what was seen behind the statement at a position."""
        found = list(seen)
        for at in self.concerned[position]:
            found[at] = min(found[at] + 1, self.all_seen[at])
        return tuple(found)

    def places_behind(self, seen, positions):
        """Returns the places that can be reached from positions while no more is seen, with hope for each end."""
        rests = self.rests.setdefault(tuple([many == most for many, most in zip(seen, self.all_seen)]), {})
        places = 0
        for position in positions:
            if position not in rests:
                rests[position] = bits_of(self.free_steps(seen, position))
            places |= rests[position]
        for at, many in enumerate(seen):
            places &= self.hopes[at][many]
        return places

    def free_goals(self, seen, position):
        """Returns pairs (answer, goal) of a position if its statement concerns only ends that saw all their looks."""
        if position == len(self.score.statements):
            return []
        is_free = all([seen[at] == self.all_seen[at] for at in self.concerned[position]])
        return steps_at(self.score, position) if is_free else []

    def free_steps(self, seen, start):
        """Returns a dict from each position of the rest of a position to the step that leads there, None for itself."""
        came = {start: None}
        waiting = [start]
        while waiting:
            position = waiting.pop()
            for answer, goal in self.free_goals(seen, position):
                if goal not in came:
                    came[goal] = (position, answer)
                    waiting.append(goal)
        return came

    def free_way(self, seen, start, position):
        """Returns the list of the steps from a position to another one of its rest."""
        came = self.free_steps(seen, start)
        way = []
        while came[position] is not None:
            way.append(came[position])
            position = came[position][0]
        return way[::-1]

    def last_steps(self, seen):
        """Returns pairs of what can have been seen before and a step behind which all this was seen."""
        return [(before, step) for before, at in self.came.get(seen, [])
                for step in self.steps_from(before, self.places[before], at)]

    def last_step(self, seen, position):
        """Returns the first one of the last steps behind which it can go on to a position."""
        for before, step in self.last_steps(seen):
            if position in self.free_steps(seen, step[2]):
                return (before, step)
        return None

    def way_to(self, seen):
        """Returns a way behind which all this was seen, from what was found on the way there."""
        steps = self.last_steps(seen)
        # Behind all that was seen, the way may stop at any place.
        position = steps[0][1][2] if steps else 0
        way = []
        while seen in self.came:
            before, step = self.last_step(seen, position)
            way = [step[:2]] + self.free_way(seen, step[2], position) + way
            seen, position = before, step[0]
        return self.free_way(seen, 0, position) + way
