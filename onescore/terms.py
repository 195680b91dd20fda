"""Numbers that nobody knows yet, and conditions on them.

Nodes are numbered from 1 on. Some stand for numbers, some for conditions; the
number of a condition with a minus in front stands for its opposite. Each node
has a tuple that says what it is:
- numbers: ("unknown",), ("bit", condition): 1 if it holds, otherwise 0,
  ("choice", condition, yes, no), ("sum",): what its form says, and
  ("+", left, right), ("-", left, right), ("*", left, right);
- conditions: ("true",), ("both", first, second), ("same", node, number),
  ("less", left, right).

The form of a number is a polynomial, modulo 4294967296: an ascending tuple of
pairs (factors, many), where factors is an ascending tuple of nodes that cannot
be taken apart. Numbers with the same form are the same node: that tells at
once most of what holds for all numbers.
"""

from onescore.numbers import combined
from onescore.reader import MODULUS

TRUE = 1
FALSE = -1
MOST_TERMS = 32
MOST_FACTORS = 4


def form_of(terms):
    """Returns the form with a dict from factors to how many there are of them."""
    return tuple(sorted([(factors, many) for factors, many in terms.items() if many > 0]))


def scaled(form, many):
    """Returns a form so many times."""
    return form_of({factors: times * many % MODULUS for factors, times in form})


def joined_forms(first, second):
    """Returns the sum of two forms."""
    terms = {factors: many for factors, many in first}
    for factors, many in second:
        terms[factors] = (terms.get(factors, 0) + many) % MODULUS
    return form_of(terms)


def constant_form(number):
    """Returns the form of a number that is known."""
    return (((), number),) if number > 0 else ()


def constant_of(form):
    """Returns the part of a form that is known."""
    return form[0][1] if form and form[0][0] == () else 0


def inverse(odd):
    """Returns the number with which an odd number makes 1."""
    found = odd
    # Each round doubles the number of digits, in base two, that are right.
    for _ in range(5):
        found = found * (2 - odd * found) % MODULUS
    return found


class Terms:
    """All nodes."""

    def __init__(self):
        self.nodes = [None, ("true",)]
        self.forms = [None, None]
        self.numbers = {}

    def node(self, key, form):
        """Returns the node with a tuple, of which there is only one."""
        if key not in self.numbers:
            self.numbers[key] = len(self.nodes)
            self.nodes.append(key)
            self.forms.append(form)
        return self.numbers[key]

    def whole(self, key):
        """Returns the node of a number that cannot be taken apart."""
        if key not in self.numbers:
            form = (((len(self.nodes),), 1),)
            self.numbers[("form", form)] = self.node(key, form)
        return self.numbers[key]

    def with_form(self, form, key):
        """Returns the node of a number with a form; key says how it came about if the form has products in it."""
        if ("form", form) not in self.numbers:
            self.numbers[("form", form)] = len(self.nodes)
            self.nodes.append(key if any([len(factors) > 1 for factors, _ in form]) else ("sum",))
            self.forms.append(form)
        return self.numbers[("form", form)]

    def number(self, number):
        """Returns the node of a number that is known."""
        return self.with_form(constant_form(number), ("sum",))

    def known_number(self, node):
        """Returns the number of a node if it is known, otherwise None."""
        form = self.forms[node]
        if not form or (len(form) == 1 and form[0][0] == ()):
            return constant_of(form)
        return None

    def unknown(self):
        """Returns a new number that nobody knows."""
        return self.whole(("unknown", len(self.nodes)))

    def bit(self, condition):
        """Returns the number 1 if a condition holds, otherwise 0."""
        if condition in (TRUE, FALSE):
            return self.number(1 if condition == TRUE else 0)
        if condition < 0:
            return self.minus(self.number(1), self.bit(-condition))
        return self.whole(("bit", condition))

    def minus(self, left, right):
        """Returns the first number minus the second one."""
        form = joined_forms(self.forms[left], scaled(self.forms[right], MODULUS - 1))
        return self.with_form(form, ("-", left, right)) if len(form) <= MOST_TERMS else self.whole(("-", left, right))

    def total(self, left, right):
        """Returns the sum of two numbers."""
        form = joined_forms(self.forms[left], self.forms[right])
        key = ("+", min(left, right), max(left, right))
        return self.with_form(form, key) if len(form) <= MOST_TERMS else self.whole(key)

    def product(self, left, right):
        """Returns the product of two numbers."""
        key = ("*", min(left, right), max(left, right))
        if len(self.forms[left]) * len(self.forms[right]) > MOST_TERMS:
            return self.whole(key)
        terms = {}
        for factors, many in self.forms[left]:
            for others, times in self.forms[right]:
                both = self.joined_factors(factors, others)
                terms[both] = (terms.get(both, 0) + many * times) % MODULUS
        if any([len(factors) > MOST_FACTORS for factors in terms]):
            return self.whole(key)
        return self.with_form(form_of(terms), key)

    def joined_factors(self, first, second):
        """Returns the factors of a product; a number that is 0 or 1 counts only once in it."""
        again = {factor: True for factor in first if self.nodes[factor][0] == "bit"}
        return tuple(sorted(first + tuple([factor for factor in second if factor not in again])))

    def told(self, node, known):
        """Returns a number for which something is known: a dict from nodes to numbers, 1 and 0 for conditions."""
        form = self.forms[node]
        if not known or not any([self.factor(factor, known) is not None for factors, _ in form for factor in factors]):
            return node
        terms = {}
        for factors, many in form:
            for number in [self.factor(factor, known) for factor in factors]:
                many = many if number is None else many * number % MODULUS
            left = tuple([factor for factor in factors if self.factor(factor, known) is None])
            terms[left] = (terms.get(left, 0) + many) % MODULUS
        return self.with_form(form_of(terms), ("sum",))

    def factor(self, node, known):
        """Returns the number of a factor if it is known, otherwise None."""
        key = self.nodes[node]
        return known.get(key[1] if key[0] == "bit" else node)

    def joined(self, sign, left, right):
        """Returns what a sign makes of two numbers."""
        numbers = (self.known_number(left), self.known_number(right))
        if numbers[0] is not None and numbers[1] is not None:
            return self.number(combined(sign, numbers[0], numbers[1]))
        if sign == "+":
            return self.total(left, right)
        if sign == "-":
            return self.minus(left, right)
        if sign == "*":
            return self.product(left, right)
        return self.bit(self.less(left, right) if sign == "<" else self.same(left, right))

    def same(self, left, right):
        """Returns the condition that two numbers are the same."""
        form = joined_forms(self.forms[left], scaled(self.forms[right], MODULUS - 1))
        if len(form) > MOST_TERMS:
            return self.node(("same", self.minus(left, right), 0), None)
        rest = tuple([term for term in form if term[0] != ()])
        number = (MODULUS - constant_of(form)) % MODULUS
        if not rest:
            return TRUE if number == 0 else FALSE
        odd = [many for _, many in rest if many & 1 == 1]
        if not odd:
            return self.even_same(rest, number)
        times = inverse(odd[0])
        return self.form_same(scaled(rest, times), number * times % MODULUS)

    def even_same(self, form, number):
        """Returns the condition that a form without odd parts has a number."""
        digits = 0
        for _, many in form:
            digits |= many
        # The lowest digit of them all, in base two, is the greatest power of two in all of them.
        return FALSE if number & ((digits & -digits) - 1) > 0 else self.form_same(form, number)

    def form_same(self, form, number):
        """Returns the condition that a form, of which nothing is known, has a number."""
        factors, many = form[0]
        if len(form) == 1 and all([self.nodes[factor][0] == "bit" for factor in factors]):
            # Such a product is 1 if all its conditions hold, otherwise 0.
            if number != 0 and number != many:
                return FALSE
            condition = TRUE
            for factor in factors:
                condition = self.both(condition, self.nodes[factor][1])
            return -condition if number == 0 else condition
        return self.node(("same", self.with_form(form, ("sum",)), number), None)

    def less(self, left, right):
        """Returns the condition that a number is less than another one."""
        first, second = self.known_number(left), self.known_number(right)
        if first is not None and second is not None:
            return TRUE if first < second else FALSE
        if left == right or second == 0 or first == MODULUS - 1:
            return FALSE
        if first == 0 or second == 1:
            return -self.same(left, right) if first == 0 else self.same(left, self.number(0))
        if second == MODULUS - 1:
            return -self.same(left, right)
        return self.node(("less", left, right), None)

    def both(self, first, second):
        """Returns the condition that two conditions hold."""
        if first == FALSE or second == FALSE or first == -second:
            return FALSE
        if first == TRUE or first == second:
            return second
        if second == TRUE:
            return first
        return self.node(("both", min(first, second), max(first, second)), None)

    def parts_of(self, condition):
        """Returns the two conditions that both must hold, or no conditions."""
        return self.nodes[condition][1:] if condition > 0 and self.nodes[condition][0] == "both" else ()

    def number_told(self, condition):
        """Returns a dict with what a condition tells: the number of a node that cannot be taken apart, if any."""
        key = self.nodes[abs(condition)]
        if condition < 0 or key[0] != "same" or self.forms[key[1]] != (((key[1],), 1),):
            return {}
        return {key[1]: key[2]}

    def fork(self, first, second):
        """Returns (shared, condition) if the conditions are both shared, and this condition or its opposite."""
        if first == -second:
            return (TRUE, first)
        for at, part in enumerate(self.parts_of(first)):
            for place, other in enumerate(self.parts_of(second)):
                if part == -other and self.parts_of(first)[1 - at] == self.parts_of(second)[1 - place]:
                    return (self.parts_of(first)[1 - at], part)
        return (None, first)

    def either(self, first, second):
        """Returns the condition that one of two conditions holds."""
        shared, _ = self.fork(first, second)
        return -self.both(-first, -second) if shared is None else shared

    def choice(self, condition, yes, no):
        """Returns a number that is another one if a condition does not hold."""
        if yes == no or condition == TRUE:
            return yes
        if condition < 0:
            return self.choice(-condition, no, yes)
        if self.known_number(yes) is not None and self.known_number(no) is not None:
            return self.total(no, self.product(self.bit(condition), self.minus(yes, no)))
        return self.whole(("choice", condition, yes, no))
