"""Texts of code (point 47)."""

from onescore.errors import SyntaxProblem
from onescore.instructions import ANSWERS, FORMS
from onescore.reader import DIGITS, LETTERS_OF_NAMES, MODULUS, run_end

# No greater number has so few digits.
MOST_DIGITS = 10


def line_of(instruction):
    """Returns the line of an instruction, without its newline."""
    parts = list(instruction)
    if instruction[0] == "wait":
        parts = parts[:2]
        for choice in instruction[2]:
            parts.extend(choice)
    return " ".join([str(part) for part in parts])


def write_code(code):
    """Returns the text of code."""
    return "".join([line_of(instruction) + "\n" for instruction in code])


def is_name(word):
    """Tells whether a word consists of letters, digits and _."""
    return len(word) > 0 and run_end(word, 0, LETTERS_OF_NAMES) == len(word)


def is_number(word):
    """Tells whether a word is a number from 0 to 4294967295 without leading zeros."""
    if word == "" or len(word) > MOST_DIGITS or run_end(word, 0, DIGITS) < len(word):
        return False
    return word == str(int(word)) and int(word) < MODULUS


def read_part(sort, word):
    """Returns the part of an instruction of a sort that a word writes, or None if it writes none."""
    if sort in ("number", "goal"):
        return int(word) if is_number(word) else None
    if sort == "answer":
        return word if word in ANSWERS else None
    return word if is_name(word) else None


def read_parts(sorts, words):
    """Returns the tuple of the parts of these sorts that words write, or None if they do not write them."""
    if len(words) != len(sorts):
        return None
    parts = [read_part(sort, word) for sort, word in zip(sorts, words)]
    return None if None in parts else tuple(parts)


def read_wait(words):
    """Returns the wait whose end and choices are written by words, or None if they write none."""
    if len(words) < 4:
        return None
    choices = [read_parts(("name", "name", "goal"), words[at:at + 3]) for at in range(1, len(words), 3)]
    if None in choices or not is_name(words[0]):
        return None
    return ("wait", words[0], tuple(choices))


def read_line(line):
    """Returns the instruction of a line, without its newline, or None if it is the line of none."""
    words = line.split(" ")
    if words[0] == "wait":
        return read_wait(words[1:])
    parts = read_parts(FORMS[words[0]], words[1:]) if words[0] in FORMS else None
    return None if parts is None else (words[0],) + parts


def read_code(text):
    """Returns the code that has a text, or raises SyntaxProblem."""
    code = []
    start = 0
    while start < len(text):
        end = text.find("\n", start)
        if end == -1:
            raise SyntaxProblem(len(text))
        instruction = read_line(text[start:end])
        if instruction is None:
            raise SyntaxProblem(start)
        code.append(instruction)
        start = end + 1
    return tuple(code)
