"""The errors that the program raises (point 2)."""


class ScoreError(ValueError):
    """The base class of all errors."""


class InvalidInputs(ScoreError):
    """Inputs that do not fit the ends of a score."""


class UnknownEnd(ScoreError):
    """A name that is no end."""


class NoSuchLetter(ScoreError):
    """An index of nothing in a bag."""


class NoSuchPlay(ScoreError):
    """A number of no play."""


class StillPlaying(ScoreError):
    """A play in which an end has not ended."""


class TooLarge(ScoreError):
    """An answer beyond the size that is promised."""


class SyntaxProblem(ScoreError):
    """A text that has not the form that it must have."""

    def __init__(self, start):
        super().__init__("the text cannot be read")
        self.start = start


class InvalidScore(ScoreError):
    """A tree of a score that breaks a rule."""

    def __init__(self, rule):
        super().__init__("the score breaks a rule")
        self.rule = rule


class Unclear(ScoreError):
    """A score that is unclear for an end, with a witness."""

    def __init__(self, end, first, second):
        super().__init__("the score is unclear for an end")
        self.end = end
        # No object keeps a list that it was passed.
        self.first = list(first)
        self.second = list(second)
