"""The instructions of code: their words, and the sorts of parts behind each word (point 36)."""

SIGN_WORDS = {"+": "add", "-": "sub", "*": "mul", "<": "less", "==": "same"}
SIGNS = {"add": "+", "sub": "-", "mul": "*", "less": "<", "same": "=="}
FORMS = {
    "push": ("number",),
    "load": ("name",),
    "store": ("name",),
    "add": (),
    "sub": (),
    "mul": (),
    "less": (),
    "same": (),
    "jump": ("goal",),
    "zero": ("goal",),
    "emit": ("end", "name"),
    "wait": ("end", "choices"),
    "input": ("name",),
    "round": ("number", "goal"),
    "yes": ("number",),
    "no": ("number",),
    "test": ("answer",),
    "stop": (),
}
ANSWERS = ("yes", "no")
