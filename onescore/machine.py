"""The machine that runs code (points 36 and 38)."""

from onescore.instructions import SIGNS
from onescore.meaning import MOST_ROUNDS, Memory
from onescore.numbers import combined
from onescore.runner import choice_of


class Machine:
    """A machine that runs the sound code of an end."""

    def __init__(self, name, code, inputs):
        self.name = name
        self.code = code
        self.memory = Memory(inputs)
        self.pile = []
        self.at = 0

    def run(self, letters, count):
        """Does up to count deeds; returns them, and from which ends how many of the letters were taken."""
        deeds = []
        taken = {}
        self.compute()
        while len(deeds) < count:
            deed = self.do_deed(letters, taken)
            if deed is None:
                break
            deeds.append(deed)
            self.compute()
        return (deeds, taken)

    def compute(self):
        """Does instructions until one comes that does a deed, waits or stops."""
        while self.step():
            pass

    def step(self):
        """Does the next instruction if that is no deed; tells whether it was done."""
        word, *parts = self.code[self.at]
        goal = self.at + 1
        if word == "push":
            self.pile.append(parts[0])
        elif word == "load":
            self.pile.append(self.memory.variables.get(parts[0], 0))
        elif word in SIGNS:
            right = self.pile.pop()
            left = self.pile.pop()
            self.pile.append(combined(SIGNS[word], left, right))
        elif word == "jump":
            goal = parts[0]
        elif word == "zero":
            if self.pile.pop() == 0:
                goal = parts[0]
        elif word != "round" or self.memory.rounds.get(parts[0], 0) >= MOST_ROUNDS:
            return False
        self.at = goal
        return True

    def do_deed(self, letters, taken):
        """Does the next instruction, which is a deed; returns it, or None if it waits or stops.

        taken has the number of letters taken from ends, and is kept up.
        """
        word, *parts = self.code[self.at]
        if word == "stop":
            return None
        if word == "wait":
            return self.take(self.code[self.at], letters, taken)
        self.at = parts[1] if word == "round" else self.at + 1
        if word == "emit":
            return ("send", self.name, parts[0], parts[1], self.pile.pop())
        if word == "store":
            return ("set", self.name, parts[0], self.memory.keep(parts[0], self.pile.pop()))
        if word == "input":
            return ("ask", self.name, parts[0], self.memory.keep(parts[0], self.memory.asked()))
        if word == "test":
            return ("if", self.name, parts[0])
        return self.note(parts[0], "yes" if word == "yes" else "no")

    def take(self, wait, letters, taken):
        """Takes the next letter for a wait; returns the deed, or None if there is none with a label of a choice."""
        sender = wait[1]
        done = taken.get(sender, 0)
        handed = letters.get(sender, [])
        choice = choice_of(wait, handed[done][0]) if done < len(handed) else None
        if choice is None:
            return None
        label, variable, self.at = choice
        taken[sender] = done + 1
        return ("get", self.name, sender, label, self.memory.keep(variable, handed[done][1]))

    def note(self, position, answer):
        """Notes the answer of a while; returns the deed."""
        self.memory.rounds[position] = self.memory.rounds.get(position, 0) + 1 if answer == "yes" else 0
        return ("while", self.name, position, answer)

    def has_ended(self):
        """Tells whether the machine stands at a stop."""
        return self.code[self.at][0] == "stop"

    def variables(self):
        """Returns the dict of the variables that got a value."""
        return dict(self.memory.variables)
