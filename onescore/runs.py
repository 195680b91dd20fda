"""Plain runs in which an end does some deeds, whatever the others ask for (points 17, 18 and 41).

What the others ask for are numbers that nobody knows. Runs that are at the
same time of the score behind the same number of deeds of the end are a branch;
a condition tells which runs these are.
"""

from heapq import heappop, heappush

from onescore.flat import value_of
from onescore.gates import Gates
from onescore.meaning import MOST_ROUNDS, Memory, deeds_at
from onescore.numbers import parts_first
from onescore.partial import hopes
from onescore.reader import MODULUS
from onescore.terms import FALSE, TRUE, Terms
from onescore.times import Times
from onescore.trails import answer_of, own_memory
from onescore.ways import concerns, look_at, steps_at

# How much is done before it is given up: steps and parts of values in them, variables, and looks at clauses.
MOST_STEPS = 30000
MOST_STEPS_AT_ONCE = 100000
VARIABLES_FOR_STEP = 2
CLAUSES_FOR_STEP = 60
# Looks at clauses for one condition, as long as there are others.
FEW_CLAUSES = 400000


def shape_of(deed):
    """Returns a deed without its number if it has one."""
    return deed if deed[0] in ("if", "while") else deed[:-1]


def shape_at(score, position, answer, end):
    """Returns the shape of the deed of an end at a position."""
    look = look_at(score, position, answer, end)
    if look[0] == "while":
        return (look[0], end, position, answer)
    if look[0] == "if":
        return (look[0], end, answer)
    return (look[0], end) + look[1:3] if look[0] in ("send", "get") else (look[0], end, look[1])


def shape_goals(score, end):
    """Returns a dict from the shape of each deed of an end to the list of pairs (position, goal) of its steps."""
    goals = {}
    for position in range(len(score.statements)):
        if concerns(score, position, end):
            for answer, goal in steps_at(score, position):
                goals.setdefault(shape_at(score, position, answer, end), []).append((position, goal))
    return goals


class Branch:
    """The runs for which a condition holds.

    memory has the nodes of the variables, and known the numbers of nodes that
    the condition tells, 1 and 0 for conditions.
    """

    def __init__(self, condition, memory, known):
        self.condition = condition
        self.memory = memory
        self.known = known


class Runs:
    """What can come next in plain runs in which an end does some deeds."""

    def __init__(self, score, end, deeds, most_steps):
        self.score = score
        self.end = end
        self.deeds = list(deeds)
        self.hopes = hopes(score, end, shape_goals(score, end), [shape_of(deed) for deed in self.deeds])
        self.times = Times(score)
        self.terms = Terms()
        self.zero = self.terms.number(0)
        self.steps_left = most_steps
        self.gates = Gates(self.terms, VARIABLES_FOR_STEP * most_steps, CLAUSES_FOR_STEP * most_steps)
        # For each ask of the others, by its time and the number of deeds done: the node of its number.
        self.asks = {}

    def behind(self, time, done, branch):
        """Returns a list of tuples (answer, time, number of deeds done, branch) for what can come next."""
        position = self.times.place(time)
        is_own = concerns(self.score, position, self.end)
        many = done + 1 if is_own else done
        found = []
        for answer, condition, variable, node in self.next_steps(time, done, branch):
            goal = self.score.next[position][1 if answer == "no" else 0]
            if is_own:
                condition = self.own_condition(position, answer, condition, node, self.deeds[done])
            after = self.narrowed(branch, condition)
            if after is None or self.hopes[many] >> goal & 1 == 0:
                continue
            if variable is not None:
                # Of its own numbers, an end knows them all.
                node = self.terms.number(self.deeds[done][-1]) if is_own else node
                after.memory = {**branch.memory, variable: node}
            found.append((answer, self.times.behind(time, goal), many, after))
        return found

    def next_steps(self, time, done, branch):
        """Returns a list of tuples (answer, condition, variable, node): which steps there are, and what they change."""
        statement = self.score.statements[self.times.place(time)]
        kind, end = statement[:2]
        if kind == "ask":
            return [("", TRUE, (end, statement[2]), self.number_asked(time, done, end))]
        if kind == "while" and time[-1] == MOST_ROUNDS:
            return [("no", TRUE, None, None)]
        node = self.value(value_of(statement), end, branch)
        if kind in ("if", "while"):
            no = self.terms.same(node, self.zero)
            return [("yes", -no, None, None), ("no", no, None, None)]
        variable = (statement[2], statement[5]) if kind == "message" else (end, statement[2])
        return [("", TRUE, variable, node)]

    def number_asked(self, time, done, end):
        """Returns the node of what an end takes from its inputs; for the end itself, the deeds tell it."""
        if end == self.end:
            return self.zero
        if (time, done) not in self.asks:
            self.asks[(time, done)] = self.terms.unknown()
        return self.asks[(time, done)]

    def own_condition(self, position, answer, condition, node, deed):
        """Returns the condition of a step of the end if its deed is this one."""
        shape = shape_at(self.score, position, answer, self.end)
        if shape != shape_of(deed):
            return FALSE
        if shape[0] in ("send", "get", "set"):
            return self.terms.same(node, self.terms.number(deed[-1]))
        return condition

    def value(self, tree, end, branch):
        """Returns the node of the number of a value at an end."""
        pile = []
        parts = parts_first(tree)
        self.steps_left -= len(parts)
        for part in parts:
            if part[0] == "number":
                pile.append(self.terms.number(part[1] % MODULUS))
            elif part[0] == "name":
                pile.append(self.terms.told(branch.memory.get((end, part[1]), self.zero), branch.known))
            else:
                right = pile.pop()
                left = pile.pop()
                pile.append(self.terms.joined(part[0], left, right))
        return self.terms.told(pile[0], branch.known)

    def narrowed(self, branch, condition):
        """Returns the branch of those runs for which a condition holds, too, or None if it is known that none does."""
        self.steps_left -= 1
        number = branch.known.get(abs(condition))
        if number is not None:
            condition = TRUE if (number == 1) == (condition > 0) else FALSE
        if condition == TRUE:
            return Branch(branch.condition, branch.memory, branch.known)
        both = self.terms.both(branch.condition, condition)
        if both == FALSE:
            return None
        known = dict(branch.known)
        waiting = [condition]
        while waiting:
            part = waiting.pop()
            known[abs(part)] = 1 if part > 0 else 0
            waiting.extend(self.terms.parts_of(part))
            known.update(self.terms.number_told(part))
        return Branch(both, branch.memory, known)

    def looks_of_run(self):
        """Follows the run with the numbers that were found last.

        Returns the list of the looks of the end, or None if it does other
        deeds, and the list of the conditions of the runs that leave this one.
        """
        memories = {other: Memory([]) for other in self.score.ends}
        memories[self.end] = own_memory(self.deeds)
        looks = []
        others = []
        time, branch = self.times.first, Branch(TRUE, {}, {})
        while len(looks) < len(self.deeds):
            position = self.times.place(time)
            steps = self.behind(time, len(looks), branch)
            deeds = self.deeds_done(time, len(looks), position, memories)
            own = [deed for deed in deeds if deed[1] == self.end]
            fits = own == self.deeds[len(looks):len(looks) + len(own)]
            taken = [step for step in steps if fits and step[0] == answer_of(deeds[0])]
            others.extend([step[3].condition for step in steps if not fits or step[0] != answer_of(deeds[0])])
            if not taken:
                return None, others
            looks.extend([look_at(self.score, position, answer_of(deed), self.end) for deed in own])
            _, time, _, branch = taken[0]
        return looks, others

    def deeds_done(self, time, done, position, memories):
        """Does the statement at a position with the numbers that were found last, and returns the list of its deeds."""
        if (time, done) in self.asks:
            memory = memories[self.score.statements[position][1]]
            memory.inputs = (self.gates.number(self.asks[(time, done)]),)
            memory.used = 0
        return deeds_at(self.score, position, memories)


class OneByOne(Runs):
    """Follows one run after the other, each with numbers with which it leaves an earlier one.

    That does for long runs, if little of them depends on what nobody knows.
    """

    def __init__(self, score, end, deeds):
        Runs.__init__(self, score, end, deeds, MOST_STEPS)

    def found_looks(self):
        """Returns the list of the looks of the end in one of the runs, or None if none is found soon."""
        waiting = [TRUE]
        tried = {}
        while waiting and self.steps_left > 0:
            condition = waiting.pop()
            if condition not in tried and self.gates.can_hold(condition, FEW_CLAUSES):
                looks, others = self.looks_of_run()
                if looks is not None:
                    return looks
                waiting.extend(others)
            tried[condition] = True
        return None


class AllAtOnce(Runs):
    """Follows all runs at once; those that come together go on as one branch.

    That does where very many runs differ in what does not matter.
    """

    def __init__(self, score, end, deeds):
        Runs.__init__(self, score, end, deeds, MOST_STEPS_AT_ONCE)
        # The times at which there are branches, and for each of them a dict from numbers of deeds done to branches.
        self.queue = []
        self.branches = {}
        # The conditions of runs with all deeds of which it is not known whether they can hold.
        self.undecided = []

    def found_looks(self):
        """Returns the list of the looks of the end in one of the runs, or None if none is found soon."""
        self.put(self.times.first, 0, Branch(TRUE, {}, {}))
        while self.queue and self.steps_left > 0:
            time = heappop(self.queue)
            branches = self.branches.pop(time)
            for done in sorted(branches):
                for _, goal, many, branch in self.behind(time, done, branches[done]):
                    if many < len(self.deeds):
                        self.put(goal, many, branch)
                    elif self.can_hold(branch.condition, FEW_CLAUSES):
                        return self.looks_of_run()[0]
        for condition in list(self.undecided):
            if self.can_hold(condition, self.gates.effort):
                return self.looks_of_run()[0]
        return None

    def can_hold(self, condition, most):
        """Tells whether it is known that a condition can hold."""
        found = self.gates.can_hold(condition, most)
        if found is None:
            self.undecided.append(condition)
        return found is True

    def put(self, time, done, branch):
        """Adds a branch that comes to a time."""
        if time not in self.branches:
            self.branches[time] = {}
            heappush(self.queue, time)
        branches = self.branches[time]
        branches[done] = self.merged(branches[done], branch) if done in branches else branch

    def merged(self, first, second):
        """Returns the branch of the runs of two branches."""
        _, chosen = self.terms.fork(first.condition, second.condition)
        memory = {}
        for variable in {**first.memory, **second.memory}:
            yes, no = [branch.memory.get(variable, self.zero) for branch in (first, second)]
            memory[variable] = self.terms.choice(chosen, yes, no)
        known = {node: number for node, number in first.known.items() if second.known.get(node) == number}
        return Branch(self.terms.either(first.condition, second.condition), memory, known)
