"""From the text of a score to its tree (points 3 to 6)."""

from onescore.errors import SyntaxProblem

WORDS = ("ends", "part", "play", "call", "asks", "sets", "as", "if", "else", "while")
LETTERS = "abcdefghijklmnopqrstuvwxyzABCDEFGHIJKLMNOPQRSTUVWXYZ"
DIGITS = "0123456789"
LETTERS_OF_NAMES = "abcdefghijklmnopqrstuvwxyzABCDEFGHIJKLMNOPQRSTUVWXYZ0123456789_"
LONG_SIGNS = ("->", "==")
SIGNS = "(){},:=<+-*"
MODULUS = 4294967296
MOST_BLOCKS = 12
MOST_BRACKETS = 12


def run_end(text, at, letters):
    """Returns where the run of these letters stops that begins at an offset."""
    while at < len(text) and text[at] in letters:
        at += 1
    return at


def line_end(text, at):
    """Returns the offset of the next newline, or the length of the text if there is none."""
    end = text.find("\n", at)
    return len(text) if end == -1 else end


def token_at(text, at):
    """Returns the sort and the end of the token that begins at an offset."""
    if text[at] in LETTERS:
        end = run_end(text, at, LETTERS_OF_NAMES)
        return ("word" if text[at:end] in WORDS else "name", end)
    if text[at] in DIGITS:
        return ("number", run_end(text, at, DIGITS))
    if text[at:at + 2] in LONG_SIGNS:
        return ("sign", at + 2)
    return ("sign" if text[at] in SIGNS else "wrong", at + 1)


def tokens(text):
    """Returns the list of the tokens of a text as tuples (sort, start, end)."""
    found = []
    at = 0
    while at < len(text):
        if text[at] in " \n":
            at += 1
        elif text[at] == "#":
            at = line_end(text, at)
        else:
            sort, end = token_at(text, at)
            found.append((sort, at, end))
            at = end
    return found


def number_value(digits):
    """Returns what digits write, modulo 4294967296."""
    # Digit by digit: Python refuses to make a number of very many digits at once.
    value = 0
    for digit in digits:
        value = (value * 10 + int(digit)) % MODULUS
    return value


class Reader:
    """The tokens of a text and the index of the one that is read next."""

    def __init__(self, text):
        self.text = text
        self.tokens = tokens(text)
        self.at = 0

    def has_more(self):
        """Tells whether a token is left."""
        return self.at < len(self.tokens)

    def next_word(self):
        """Returns the text of the next token, or nothing if none is left."""
        if not self.has_more():
            return ""
        _, start, end = self.tokens[self.at]
        return self.text[start:end]

    def next_sort(self):
        """Returns the sort of the next token, or nothing if none is left."""
        return self.tokens[self.at][0] if self.has_more() else ""

    def fail(self):
        """Fails at the next token, or behind the last one if none is left."""
        if self.has_more():
            raise SyntaxProblem(self.tokens[self.at][1])
        raise SyntaxProblem(self.tokens[-1][2] if self.tokens else 0)

    def take(self, word):
        """Passes over a word or sign that must stand here."""
        if self.next_word() != word:
            self.fail()
        self.at += 1

    def take_sort(self, sort):
        """Passes over a token of a sort that must stand here, and returns its text."""
        if self.next_sort() != sort:
            self.fail()
        word = self.next_word()
        self.at += 1
        return word

    def read_name(self):
        """Reads a name."""
        return self.take_sort("name")

    def read_names(self):
        """Reads names with commas between them."""
        names = [self.read_name()]
        while self.next_word() == ",":
            self.take(",")
            names.append(self.read_name())
        return tuple(names)

    def read_names_in_brackets(self):
        """Reads the parameters of a part or the ends of a call."""
        self.take("(")
        names = self.read_names()
        self.take(")")
        return names

    def read_score(self):
        """Reads the whole text."""
        self.take("ends")
        ends = self.read_names()
        parts = []
        while self.next_word() == "part":
            parts.append(self.read_part())
        self.take("play")
        block = self.read_block(0)
        if self.has_more():
            self.fail()
        return (ends, tuple(parts), block)

    def read_part(self):
        """Reads a part."""
        self.take("part")
        name = self.read_name()
        parameters = self.read_names_in_brackets()
        return (name, parameters, self.read_block(0))

    def read_block(self, blocks):
        """Reads a block inside of so many others."""
        if blocks >= MOST_BLOCKS:
            self.fail()
        self.take("{")
        statements = []
        while self.next_word() != "}":
            statements.append(self.read_statement(blocks + 1))
        self.take("}")
        return tuple(statements)

    def read_statement(self, blocks):
        """Reads a statement inside of so many blocks."""
        word = self.next_word()
        if word == "if":
            return self.read_if(blocks)
        if word == "while":
            return self.read_while(blocks)
        if word == "call":
            self.take("call")
            return ("call", self.read_name(), self.read_names_in_brackets())
        end = self.read_name()
        if self.next_word() == "->":
            return self.read_message(end)
        if self.next_word() == "sets":
            self.take("sets")
            variable = self.read_name()
            self.take("=")
            return ("set", end, variable, self.read_value(0))
        self.take("asks")
        return ("ask", end, self.read_name())

    def read_message(self, sender):
        """Reads a message behind its sender."""
        self.take("->")
        receiver = self.read_name()
        self.take(":")
        label = self.read_name()
        self.take("(")
        value = self.read_value(0)
        self.take(")")
        self.take("as")
        return ("message", sender, receiver, label, value, self.read_name())

    def read_decision(self, word):
        """Reads the beginning of an if or while: the end that decides, and its value."""
        self.take(word)
        end = self.read_name()
        self.take(":")
        return (end, self.read_value(0))

    def read_if(self, blocks):
        """Reads an if inside of so many blocks."""
        end, value = self.read_decision("if")
        yes = self.read_block(blocks)
        self.take("else")
        return ("if", end, value, yes, self.read_block(blocks))

    def read_while(self, blocks):
        """Reads a while inside of so many blocks."""
        end, value = self.read_decision("while")
        return ("while", end, value, self.read_block(blocks))

    def read_value(self, brackets):
        """Reads a value inside of so many brackets of the same value."""
        left = self.read_sum(brackets)
        if self.next_word() not in ("<", "=="):
            return left
        sign = self.take_sort("sign")
        return (sign, left, self.read_sum(brackets))

    def read_sum(self, brackets):
        """Reads products with + and - between them."""
        left = self.read_product(brackets)
        while self.next_word() in ("+", "-"):
            sign = self.take_sort("sign")
            left = (sign, left, self.read_product(brackets))
        return left

    def read_product(self, brackets):
        """Reads numbers, names and values in brackets with * between them."""
        left = self.read_simple(brackets)
        while self.next_word() == "*":
            self.take("*")
            left = ("*", left, self.read_simple(brackets))
        return left

    def read_simple(self, brackets):
        """Reads a number, a name or a value in brackets."""
        if self.next_sort() == "number":
            return ("number", number_value(self.take_sort("number")))
        if self.next_sort() == "name":
            return ("name", self.read_name())
        if brackets >= MOST_BRACKETS:
            self.fail()
        self.take("(")
        value = self.read_value(brackets + 1)
        self.take(")")
        return value


def read_tree(text):
    """Returns the tree of the score that a text writes, or raises SyntaxProblem."""
    return Reader(text).read_score()
