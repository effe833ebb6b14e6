"""Words, class names, and the parts of a line (DOC.md, point 5)."""

SMALL_LETTERS = "abcdefghijklmnopqrstuvwxyz"
LARGE_LETTERS = "ABCDEFGHIJKLMNOPQRSTUVWXYZ"
MOST_LETTERS = 8
RESERVED = (
    "class", "def", "enter", "exit", "return", "view", "copy", "new",
    "super", "wrap", "self", "none", "seen", "outside",
)


def are_small(text):
    """Whether all signs of a string are letters a to z."""
    return all([sign in SMALL_LETTERS for sign in text])


def is_word(text):
    """Whether a string is a word."""
    return 1 <= len(text) <= MOST_LETTERS and are_small(text) and text not in RESERVED


def is_class_name(text):
    """Whether a string is a class name."""
    return 1 <= len(text) <= MOST_LETTERS and text[0] in LARGE_LETTERS and are_small(text[1:])


def parts_of(text):
    """The parts of a string between the `, ` that stand in no brackets.

    Brackets are only counted here: whether a part is right is seen when it is read.
    """
    parts = []
    nested = 0
    start = 0
    for at, sign in enumerate(text):
        if sign in "[(":
            nested += 1
        elif sign in ")]":
            nested -= 1
        elif nested == 0 and text[at:at + 2] == ", ":
            parts.append(text[start:at])
            start = at + 2
    parts.append(text[start:])
    return parts
