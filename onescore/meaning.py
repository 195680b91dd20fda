"""The plain run of a score, and its cuts (points 17 to 19)."""

from onescore.errors import InvalidInputs, TooLarge
from onescore.numbers import number_of
from onescore.reader import MODULUS

MOST_ROUNDS = 8
MOST_CUTS = 3000


def check_inputs(score, inputs):
    """Returns None if a dict of inputs fits a score, otherwise raises InvalidInputs."""
    if sorted(inputs) != sorted(score.ends):
        raise InvalidInputs("the inputs have not the ends of the score as keys")
    for end in score.ends:
        if not all([0 <= number < MODULUS for number in inputs[end]]):
            raise InvalidInputs("a number of the inputs is out of its bounds")


class Memory:
    """What an end keeps by itself: its variables, its inputs, and how often its whiles were answered yes."""

    def __init__(self, inputs):
        self.inputs = tuple(inputs)
        self.used = 0
        self.variables = {}
        self.rounds = {}

    def copied(self):
        """Returns another memory that holds the same."""
        twin = Memory(self.inputs)
        twin.used = self.used
        twin.variables = dict(self.variables)
        twin.rounds = dict(self.rounds)
        return twin

    def keep(self, variable, number):
        """Puts a number into a variable, and returns it."""
        self.variables[variable] = number
        return number

    def asked(self):
        """Returns the next input, or 0 if there is none left."""
        if self.used == len(self.inputs):
            return 0
        self.used += 1
        return self.inputs[self.used - 1]

    def answer(self, value):
        """Returns the answer of an if."""
        return "no" if number_of(value, self.variables) == 0 else "yes"

    def round_answer(self, position, value):
        """Returns the answer of the while with a position, and counts it."""
        before = self.rounds.get(position, 0)
        answer = self.answer(value) if before < MOST_ROUNDS else "no"
        self.rounds[position] = before + 1 if answer == "yes" else 0
        return answer


def own_deed(memory, end, act):
    """Does a set, ask, if or while of an end, and returns the deed.

    act begins with ("set", variable, value), ("ask", variable), ("if", value)
    or ("while", position, value).
    """
    kind = act[0]
    if kind == "set":
        return (kind, end, act[1], memory.keep(act[1], number_of(act[2], memory.variables)))
    if kind == "ask":
        return (kind, end, act[1], memory.keep(act[1], memory.asked()))
    if kind == "if":
        return (kind, end, memory.answer(act[1]))
    return (kind, end, act[1], memory.round_answer(act[1], act[2]))


def deeds_at(score, position, memories):
    """Does the statement at a position, and returns the list of its deeds."""
    statement = score.statements[position]
    end = statement[1]
    if statement[0] == "message":
        _, _, other, label, value, variable = statement
        number = number_of(value, memories[end].variables)
        memories[other].keep(variable, number)
        return [("send", end, other, label, number), ("get", other, end, label, number)]
    parts = (position,) + statement[2:] if statement[0] == "while" else statement[2:]
    return [own_deed(memories[end], end, (statement[0],) + parts)]


def plain_deeds(score, memories):
    """Goes through a score, and returns the list of all deeds."""
    deeds = []
    position = 0
    while position < len(score.statements):
        deeds.extend(deeds_at(score, position, memories))
        goals = score.next[position]
        # Only an answer can be the last part of a deed and a string.
        position = goals[1] if deeds[-1][-1] == "no" else goals[0]
    return deeds


def clocks_of(ends, deeds):
    """Returns the list of the clocks of the deeds of a plain run (point 43)."""
    numbers = {end: at for at, end in enumerate(ends)}
    latest = {end: tuple([0] * len(ends)) for end in ends}
    clocks = []
    for deed in deeds:
        end = deed[1]
        clock = latest[end]
        if deed[0] == "get":
            # The send of the same message is the deed directly before.
            clock = tuple([max(pair) for pair in zip(clock, clocks[-1])])
        at = numbers[end]
        latest[end] = clock[:at] + (clock[at] + 1,) + clock[at + 1:]
        clocks.append(latest[end])
    return clocks


def is_within(clock, other):
    """Tells whether a clock is nowhere greater than another one, or than a cut."""
    return all([number <= bound for number, bound in zip(clock, other)])


class PlainRun:
    """The plain run of a score with inputs."""

    def __init__(self, score, inputs):
        check_inputs(score, inputs)
        memories = {end: Memory(inputs[end]) for end in score.ends}
        self.deeds = tuple(plain_deeds(score, memories))
        self.rows = {end: tuple([deed for deed in self.deeds if deed[1] == end]) for end in score.ends}
        self.variables = {end: dict(memories[end].variables) for end in score.ends}
        self.clocks = tuple(clocks_of(score.ends, self.deeds))
        self.clock_rows = tuple([self.clock_row(end) for end in score.ends])

    def clock_row(self, end):
        """Returns the tuple of the clocks of the deeds of an end."""
        return tuple([clock for deed, clock in zip(self.deeds, self.clocks) if deed[1] == end])


def is_even(run, cut):
    """Tells whether a tuple with a number of deeds for each end is even."""
    # The clock of the last deed of an end tells what is needed for all of its deeds.
    return all([done == 0 or is_within(row[done - 1], cut) for row, done in zip(run.clock_rows, cut)])


def even_cuts(run):
    """Returns the ascending list of all even cuts, or raises TooLarge if there are more than 3000."""
    first = tuple([0] * len(run.clock_rows))
    found = {first}
    waiting = [first]
    # Each even cut comes from another one by one deed more: leave out the last deed of the plain run in it.
    while waiting:
        cut = waiting.pop()
        for end, row in enumerate(run.clock_rows):
            if cut[end] == len(row):
                continue
            grown = cut[:end] + (cut[end] + 1,) + cut[end + 1:]
            if grown not in found and is_within(row[cut[end]], grown):
                found.add(grown)
                waiting.append(grown)
        if len(found) > MOST_CUTS:
            raise TooLarge("there are too many even cuts")
    return sorted(found)
