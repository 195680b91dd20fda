"""Ends that run their tables, with letters that are late and ends that fall (points 20 to 27)."""

from onescore.errors import UnknownEnd
from onescore.meaning import Memory, own_deed
from onescore.numbers import number_of
from onescore.tables import goals_of


def choice_of(state, label):
    """Returns the choice of a get state, or of a wait in code, for a label, or None if it has none."""
    for choice in state[2]:
        if choice[0] == label:
            return choice
    return None


class Standing:
    """What a checkpoint keeps of a runner."""

    def __init__(self, others, inputs):
        self.memory = Memory(inputs)
        self.state = 0
        # For each other end, pairs of a letter that is not receipted and the number of all letters taken before it.
        self.letters = {other: [] for other in others}
        self.sent = {other: 0 for other in others}
        self.receipted = {other: 0 for other in others}
        self.taken = {other: 0 for other in others}

    def copied(self):
        """Returns another standing that holds the same."""
        twin = Standing(list(self.sent), [])
        twin.memory = self.memory.copied()
        twin.state = self.state
        twin.letters = {other: list(self.letters[other]) for other in self.letters}
        twin.sent = dict(self.sent)
        twin.receipted = dict(self.receipted)
        twin.taken = dict(self.taken)
        return twin

    def send(self, name, state):
        """Makes the letter of a send state, and returns the deed."""
        _, other, label, value, goal = state
        number = number_of(value, self.memory.variables)
        letter = ("letter", name, other, self.sent[other], label, number)
        self.letters[other].append((letter, sum(self.taken.values())))
        self.sent[other] += 1
        self.state = goal
        return ("send", name, other, label, number)

    def take(self, name, state, label, number):
        """Takes a letter at a get state, and returns the deed."""
        _, variable, goal = choice_of(state, label)
        self.memory.keep(variable, number)
        self.taken[state[1]] += 1
        self.state = goal
        return ("get", name, state[1], label, number)

    def act(self, name, state):
        """Does what a state says that is no get and no end, and returns the deed."""
        if state[0] == "send":
            return self.send(name, state)
        deed = own_deed(self.memory, name, state)
        # Only an answer can be the last part of a deed and a string.
        self.state = goals_of(state)[1 if deed[-1] == "no" else 0]
        return deed


class Runner:
    """An end that runs its table with its inputs."""

    def __init__(self, ends, name, table, inputs):
        self.name = name
        self.others = tuple([end for end in ends if end != name])
        self.table = table
        self.now = Standing(self.others, inputs)
        self.done = []
        # Where a fall starts again, with the number of the deeds done there.
        self.start = self.now.copied()
        self.done_at_start = 0
        # The journal, the number of its entries that last, and how many letters are taken in what lasts.
        self.entries = []
        self.lasting = 0
        self.safe = dict(self.now.taken)
        # From pairs of a sender and a number of a letter to pairs of its label and its value.
        self.tray = {}

    def step(self):
        """Does the next deed; returns it, or None if none can be done."""
        state = self.table[self.now.state]
        if state[0] == "end":
            return None
        if state[0] == "get":
            deed = self.take_from_tray(state)
        else:
            deed = self.now.act(self.name, state)
        if deed is not None:
            self.done.append(deed)
        return deed

    def take_from_tray(self, state):
        """Takes the letter for a get state; returns the deed, or None if it is not there."""
        place = (state[1], self.now.taken[state[1]])
        if place not in self.tray or choice_of(state, self.tray[place][0]) is None:
            return None
        label, number = self.tray[place]
        del self.tray[place]
        self.entries.append(("took", state[1], label, number))
        return self.now.take(self.name, state, label, number)

    def deliver(self, item):
        """Gets a letter or receipt."""
        other = item[1]
        if item[2] != self.name or other not in self.now.taken:
            return
        if item[0] == "letter":
            if item[3] >= self.now.taken[other]:
                self.tray[(other, item[3])] = (item[4], item[5])
        elif item[3] > self.now.receipted[other]:
            self.now.receipted[other] = item[3]
            letters = self.now.letters[other]
            self.now.letters[other] = [pair for pair in letters if pair[0][3] >= item[3]]

    def outgoing(self):
        """Returns the list of the letters that may leave, and of the receipts."""
        lasting = sum(self.safe.values())
        found = []
        for other in self.others:
            found.extend([letter for letter, before in self.now.letters[other] if before <= lasting])
            if self.safe[other] > 0:
                found.append(("receipt", self.name, other, self.safe[other]))
        return found

    def flush(self):
        """Makes all entries so far last."""
        self.lasting = len(self.entries)
        self.safe = dict(self.now.taken)

    def checkpoint(self):
        """Makes all entries last, and lets a fall start again from here."""
        self.entries = []
        self.flush()
        self.start = self.now.copied()
        self.done_at_start = len(self.done)

    def fall(self, lost):
        """Drops the last entries, but none that lasts, and starts again."""
        kept = max(self.lasting, len(self.entries) - lost)
        self.entries = self.entries[:kept]
        self.now = self.start.copied()
        self.done = self.done[:self.done_at_start]
        self.tray = {}
        self.repeat()
        self.flush()

    def repeat(self):
        """Does all deeds again that can be done with the letters in the journal."""
        again = 0
        state = self.table[self.now.state]
        while state[0] != "end" and (state[0] != "get" or again < len(self.entries)):
            if state[0] == "get":
                _, _, label, number = self.entries[again]
                again += 1
                self.done.append(self.now.take(self.name, state, label, number))
            else:
                self.done.append(self.now.act(self.name, state))
            state = self.table[self.now.state]

    def journal(self):
        """Returns the list of the entries since the last checkpoint."""
        return list(self.entries)

    def has_ended(self):
        """Tells whether the end state is reached."""
        return self.table[self.now.state][0] == "end"

    def deeds(self):
        """Returns the list of the deeds done."""
        return list(self.done)

    def variables(self):
        """Returns the dict of the variables that got a value."""
        return dict(self.now.memory.variables)

    def unreceipted(self, other):
        """Returns the number of letters to another end that are not receipted."""
        if other not in self.now.letters:
            raise UnknownEnd("there is no such other end")
        return len(self.now.letters[other])
