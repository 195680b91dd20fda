"""Terms as clauses: each number as 32 literals, the lowest digit first."""

from onescore.solver import Solver

DIGITS = 32
# The literals of the first variable, which is true.
YES = 2
NO = 3
# What is said of a gate: clauses of 0 for its literal, 2 for its first part, 4 for its second one, and so on, 1 more
# for the opposite.
ROWS = {
    "both": ((0, 3, 5), (1, 2), (1, 4)),
    "one": ((1, 2, 4), (1, 3, 5), (0, 3, 4), (0, 2, 5)),
    "odd": ((1, 2, 4, 6), (1, 2, 5, 7), (1, 3, 4, 7), (1, 3, 5, 6),
            (0, 3, 4, 6), (0, 2, 5, 6), (0, 2, 4, 7), (0, 3, 5, 7)),
    "most": ((0, 3, 5), (0, 3, 7), (0, 5, 7), (1, 2, 4), (1, 2, 6), (1, 4, 6)),
    "choice": ((0, 3, 5), (1, 3, 4), (0, 2, 7), (1, 2, 6), (0, 5, 7), (1, 4, 6)),
}


def opposite(digits):
    """Returns the literals that hold where some do not."""
    return [literal ^ 1 for literal in digits]


def digits_of(number):
    """Returns the literals of a number that is known."""
    return [YES if number >> at & 1 == 1 else NO for at in range(DIGITS)]


def shifted(digits, many):
    """Returns digits with so many zeros in front."""
    return ([NO] * many + digits)[:DIGITS]


class Gates:
    """What was said of the nodes of terms by clauses."""

    def __init__(self, terms, most_variables, most_effort):
        self.terms = terms
        self.most_variables = most_variables
        # How many clauses may still be looked at in all.
        self.effort = most_effort
        self.solver = Solver()
        self.solver.new(0)
        self.solver.demand([YES])
        self.numbers = {}
        # For each node that was built: the list of its digits, or the literal of a condition.
        self.built = {1: YES}

    def can_hold(self, condition, most):
        """Tells whether a condition can hold; None if that is not known when so many clauses were looked at."""
        self.solver.back_to(0)
        if not self.build(abs(condition)):
            return None
        literal = self.literal(condition)
        before = self.solver.looked
        found = self.solver.solve(literal, min(most, self.effort))
        self.effort -= self.solver.looked - before
        return found

    def number(self, node):
        """Returns the number of a node behind can_hold; 0 if it had nothing to do with the condition."""
        digits = self.built.get(node, [])
        return sum([1 << at for at, literal in enumerate(digits) if self.solver.truth[literal] > 0])

    def literal(self, condition):
        """Returns the literal of a condition that is built."""
        literal = self.built[abs(condition)]
        return literal ^ 1 if condition < 0 else literal

    def build(self, node):
        """Says all of a node; returns False if there would be too many variables."""
        waiting = [node]
        while waiting:
            if len(self.solver.levels) > self.most_variables:
                return False
            missing = [part for part in self.parts(waiting[-1]) if part not in self.built]
            if missing:
                waiting.extend(missing)
                continue
            last = waiting.pop()
            if last not in self.built:
                self.built[last] = self.made(last)
        return True

    def parts(self, node):
        """Returns the nodes that a node needs."""
        key = self.terms.nodes[node]
        if key[0] in ("unknown", "true"):
            return []
        if key[0] == "sum":
            return [factor for factors, _ in self.terms.forms[node] for factor in factors]
        if key[0] == "same":
            return [key[1]]
        return [abs(part) for part in key[1:]]

    def made(self, node):
        """Returns the digits or the literal of a node whose parts are built."""
        key = self.terms.nodes[node]
        kind = key[0]
        if kind == "unknown":
            return [2 * self.solver.new(1) for _ in range(DIGITS)]
        if kind == "sum":
            return self.form(self.terms.forms[node])
        if kind == "bit":
            return [self.literal(key[1])] + [NO] * (DIGITS - 1)
        if kind == "both":
            return self.both(self.literal(key[1]), self.literal(key[2]))
        first = self.built[abs(key[1])]
        if kind == "same":
            return self.all_hold([literal ^ 1 ^ (key[2] >> at & 1) for at, literal in enumerate(first)])
        second = self.built[key[2]]
        if kind == "less":
            return self.less(first, second)
        if kind == "choice":
            return [self.choice(first, yes, no) for yes, no in zip(second, self.built[key[3]])]
        if kind == "*":
            return self.product(first, second)
        return self.total(first, second, NO) if kind == "+" else self.total(first, opposite(second), YES)

    def form(self, form):
        """Returns the digits of a form."""
        found = digits_of(0)
        for factors, many in form:
            digits = digits_of(1)
            for factor in factors:
                digits = self.product(digits, self.built[factor])
            found = self.total_of_many(found, digits, many)
        return found

    def total_of_many(self, digits, others, many):
        """Returns the sum of a number and so many times another one."""
        for at in range(DIGITS):
            # 1 less instead of 3 more, and 4 more then, keeps the sums few.
            if many >> at & 3 == 3:
                digits = self.total(digits, opposite(shifted(others, at)), YES)
                many += 1 << at
            elif many >> at & 1 == 1:
                digits = self.total(digits, shifted(others, at), NO)
        return digits

    def total(self, first, second, carry):
        """Returns the digits of a sum of two numbers, and 1 if carry holds."""
        found = []
        for one, other in zip(first, second):
            found.append(self.odd(one, other, carry))
            carry = self.most(one, other, carry)
        return found

    def product(self, first, second):
        """Returns the digits of a product."""
        if first.count(NO) > second.count(NO):
            first, second = second, first
        found = digits_of(0)
        for at, literal in enumerate(second):
            if literal != NO:
                found = self.total(found, shifted([self.both(literal, digit) for digit in first], at), NO)
        return found

    def less(self, first, second):
        """Returns the literal of the condition that a number is less than another one."""
        found = NO
        for one, other in zip(first, second):
            found = self.most(one ^ 1, other, found)
        return found

    def gate(self, sort, parts):
        """Returns the literal of a gate, of which there is only one of each sort for the same parts."""
        key = (sort, parts)
        if key not in self.numbers:
            literals = (2 * self.solver.new(0),) + parts
            self.numbers[key] = literals[0]
            for row in ROWS[sort]:
                self.solver.demand([literals[code >> 1] ^ (code & 1) for code in row])
        return self.numbers[key]

    def all_hold(self, literals):
        """Returns the literal of the condition that all literals hold."""
        needed = sorted({literal for literal in literals if literal != YES})
        if any([literal == NO or literal ^ 1 in needed for literal in needed]):
            return NO
        if len(needed) < 2:
            return needed[0] if needed else YES
        found = 2 * self.solver.new(0)
        self.solver.demand([found] + opposite(needed))
        for literal in needed:
            self.solver.demand([found ^ 1, literal])
        return found

    def both(self, first, second):
        """Returns the literal of the condition that two literals hold."""
        if first == NO or second == NO or first == second ^ 1:
            return NO
        if first == YES or first == second:
            return second
        if second == YES:
            return first
        return self.gate("both", (min(first, second), max(first, second)))

    def odd(self, first, second, third):
        """Returns the literal of the condition that one or three of three literals hold."""
        turned = (first ^ second ^ third) & 1
        needed = []
        for literal in (first & -2, second & -2, third & -2):
            if literal == YES:
                turned ^= 1
            elif literal in needed:
                needed.remove(literal)
            else:
                needed.append(literal)
        if not needed:
            return NO ^ turned
        if len(needed) == 1:
            return needed[0] ^ turned
        return self.gate("one" if len(needed) == 2 else "odd", tuple(sorted(needed))) ^ turned

    def most(self, first, second, third):
        """Returns the literal of the condition that at least two of three literals hold."""
        a, b, c = sorted([first, second, third])
        if a == b or b == c:
            return b
        if a ^ 1 == b:
            return c
        if b ^ 1 == c:
            return a
        if a in (YES, NO):
            return self.both(b, c) if a == NO else self.both(b ^ 1, c ^ 1) ^ 1
        return self.gate("most", (a, b, c))

    def choice(self, condition, yes, no):
        """Returns the literal yes if a condition holds, otherwise the literal no."""
        if yes == no:
            return yes
        if condition in (YES, NO):
            return yes if condition == YES else no
        return self.gate("choice", (condition, yes, no))
