"""Finds truth values for which clauses hold.

The literals of the variable with number v are 2 * v, which says that it is
true, and 2 * v + 1, which says that it is not. A clause is a list of literals,
one of which must hold. What contradicts the clauses is learned as a clause
more, so that no contradiction comes up twice.
"""

from heapq import heappop, heappush

CONFLICTS_BEFORE_RESTART = 100


class Solver:
    """Clauses, and what is known of their variables."""

    def __init__(self):
        # For each literal: 1 if it holds, -1 if it does not hold, 0 if that is open.
        self.truth = [0, 0]
        # For each literal: the clauses to look at when it does not hold any more, which have it in front or second.
        self.watches = [[], []]
        # For each variable: how many choices were made before, the clause from which its value came, the literal
        # that held last, how often it was part of contradictions (late ones count more), and its place in the queue.
        self.levels = [0]
        self.reasons = [None]
        self.lasts = [0]
        self.weights = [0]
        self.queued = [-1]
        self.queue = []
        self.weight = 1
        # The literals that hold, in order; how many there were before each choice; how many were followed up.
        self.trail = []
        self.starts = []
        self.followed = 0
        # How many clauses were looked at so far, which tells how much work it was.
        self.looked = 0

    def new(self, weight):
        """Returns the number of a new variable; variables of greater weight are chosen first."""
        variable = len(self.levels)
        self.truth.extend([0, 0])
        self.watches.extend([[], []])
        self.levels.append(0)
        self.reasons.append(None)
        self.lasts.append(2 * variable + 1)
        self.weights.append(weight)
        self.queued.append(-1)
        self.queue_up(variable)
        return variable

    def queue_up(self, variable):
        """Puts a variable into the queue of those that can be chosen."""
        weight = self.weights[variable]
        if self.queued[variable] != weight:
            self.queued[variable] = weight
            heappush(self.queue, (-weight, variable))

    def demand(self, literals):
        """Demands that one of some different literals holds; nothing is chosen at this moment."""
        clause = []
        for literal in literals:
            if self.truth[literal] > 0:
                return
            if self.truth[literal] == 0:
                clause.append(literal)
        if len(clause) > 1:
            self.watch(clause)
        elif len(clause) == 1:
            self.hold(clause[0], None)

    def watch(self, clause):
        """Takes up a clause of at least two literals."""
        self.watches[clause[0]].append(clause)
        self.watches[clause[1]].append(clause)

    def hold(self, literal, reason):
        """Lets a literal hold from now on."""
        variable = literal >> 1
        self.truth[literal] = 1
        self.truth[literal ^ 1] = -1
        self.levels[variable] = len(self.starts)
        self.reasons[variable] = reason
        self.trail.append(literal)

    def follow_up(self):
        """Lets all hold that must; returns a clause that cannot hold any more, or None."""
        while self.followed < len(self.trail):
            broken = self.look_through(self.trail[self.followed] ^ 1)
            self.followed += 1
            if broken is not None:
                return broken
        return None

    def look_through(self, failed):
        """Looks at the clauses of a literal that does not hold; returns one that cannot hold any more, or None."""
        truth = self.truth
        watching = self.watches[failed]
        self.looked += len(watching) + 1
        kept = []
        self.watches[failed] = kept
        broken = None
        for clause in watching:
            if clause[0] == failed:
                clause[0] = clause[1]
                clause[1] = failed
            first = clause[0]
            if broken is not None or truth[first] > 0:
                kept.append(clause)
                continue
            for at in range(2, len(clause)):
                if truth[clause[at]] >= 0:
                    clause[1] = clause[at]
                    clause[at] = failed
                    self.watches[clause[1]].append(clause)
                    break
            else:
                kept.append(clause)
                if truth[first] < 0:
                    broken = clause
                else:
                    self.hold(first, clause)
        return broken

    def back_to(self, level):
        """Takes back all choices but the first ones."""
        if len(self.starts) <= level:
            return
        start = self.starts[level]
        for literal in self.trail[start:]:
            self.truth[literal] = 0
            self.truth[literal ^ 1] = 0
            self.lasts[literal >> 1] = literal
            self.queue_up(literal >> 1)
        del self.trail[start:]
        del self.starts[level:]
        self.followed = start

    def lesson(self, broken):
        """Returns a clause that follows from the others and leaves only one literal of the last choice."""
        marked = {}
        found = []
        waiting = 0
        at = len(self.trail)
        clause = broken
        while True:
            for literal in clause:
                variable = literal >> 1
                if variable not in marked and self.levels[variable] > 0:
                    marked[variable] = True
                    self.weights[variable] += self.weight
                    if self.levels[variable] == len(self.starts):
                        waiting += 1
                    else:
                        found.append(literal)
            at -= 1
            while self.trail[at] >> 1 not in marked:
                at -= 1
            waiting -= 1
            if waiting == 0:
                return [self.trail[at] ^ 1] + [literal for literal in found if self.is_needed(literal, marked)]
            clause = self.reasons[self.trail[at] >> 1]

    def is_needed(self, literal, marked):
        """Tells whether a literal of a lesson does not follow from the other ones."""
        reason = self.reasons[literal >> 1]
        if reason is None:
            return True
        return any([other >> 1 not in marked and self.levels[other >> 1] > 0 for other in reason])

    def learn(self, broken):
        """Takes back what led to a contradiction, and takes up what follows from it."""
        clause = self.lesson(broken)
        self.weight += self.weight // 16 + 1
        if len(clause) == 1:
            self.back_to(0)
            self.hold(clause[0], None)
            return
        latest = max([(self.levels[clause[at] >> 1], at) for at in range(1, len(clause))])[1]
        clause[1], clause[latest] = clause[latest], clause[1]
        self.back_to(self.levels[clause[1] >> 1])
        self.watch(clause)
        self.hold(clause[0], clause)

    def choice(self):
        """Returns a literal that is open, with the value that its variable had last, or 0 if none is open."""
        while self.queue:
            weight, variable = heappop(self.queue)
            if self.queued[variable] == -weight:
                self.queued[variable] = -1
            if self.truth[2 * variable] == 0:
                return self.lasts[variable]
        return 0

    def solve(self, goal, most):
        """Tells whether a literal can hold; None if that is not known when so many clauses were looked at.

        Behind a True, the values are kept until back_to(0).
        """
        last = self.looked + most
        conflicts = 0
        while True:
            broken = self.follow_up()
            if broken is not None:
                if not self.starts:
                    return False
                conflicts += 1
                self.learn(broken)
                if conflicts % CONFLICTS_BEFORE_RESTART == 0:
                    self.back_to(0)
                continue
            if self.truth[goal] < 0 or self.looked > last:
                found = False if self.truth[goal] < 0 else None
                self.back_to(0)
                return found
            literal = goal if self.truth[goal] == 0 else self.choice()
            if literal == 0:
                return True
            self.starts.append(len(self.trail))
            self.hold(literal, None)
