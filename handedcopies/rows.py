"""Rows of methods and their parts, as they are read from a text (DOC.md, point 6).

Each function `read_..` takes a whole string and returns what it says, or None if it does not have the form.
"""

from handedcopies.shapes import Shape, is_shape
from handedcopies.words import is_word, parts_of

MOST_STEPS = 3
STEPS = ("0", "1", "2")
WRAP_FLOORS = ("0", "1", "2", "3")
COPY_ENDS = (", 1", ", 2", ", 3")


class Path:
    """A word, or a field of self, with the items behind it; a step is an integer or a word."""

    def __init__(self, of_self, word, steps):
        self.of_self = of_self
        self.word = word
        self.steps = steps


class Copy:
    """A copy of what a path or a call gives; floor_count is None for all floors."""

    def __init__(self, inner, floor_count):
        self.inner = inner
        self.floor_count = floor_count


class New:
    """A new value of a Shape."""

    def __init__(self, shape):
        self.shape = shape


class Ask:
    """A call of a function parameter."""

    def __init__(self, word, simple):
        self.word = word
        self.simple = simple


class SuperCall:
    """A call of the next definition; an argument is an integer, a simple or a Wrap."""

    def __init__(self, arguments):
        self.arguments = arguments


class Wrap:
    """A function parameter that is passed on with copies of its argument and its reply."""

    def __init__(self, word, out_floors, back_floors):
        self.word = word
        self.out_floors = out_floors
        self.back_floors = back_floors


class Row:
    """A row: way is "set", "call", "return" or "view"; path is what stands left of `=`, or None."""

    def __init__(self, way, path, term):
        self.way = way
        self.path = path
        self.term = term


def lone_word(part):
    """The word that a part of a row is, or None if it is anything else."""
    if isinstance(part, Path) and not part.of_self and len(part.steps) == 0:
        return part.word
    return None


def uncopied(row):
    """The term of a row, or what it copies; a call in a row stands nowhere else."""
    return row.term.inner if isinstance(row.term, Copy) else row.term


def has_super(row):
    """Whether a row calls the next definition."""
    return isinstance(uncopied(row), SuperCall)


def has_ask(row):
    """Whether a row calls a function parameter."""
    return isinstance(uncopied(row), Ask)


def read_step(text):
    """What stands in one pair of square brackets of a path; the string begins behind the first."""
    step = text[:-1]
    if not text.endswith("]"):
        return None
    if step in STEPS:
        return int(step)
    return step if is_word(step) else None


def read_path(text):
    """A path."""
    marks = text.removeprefix("self.").split("[")
    steps = [read_step(mark) for mark in marks[1:]]
    if not is_word(marks[0]) or len(steps) > MOST_STEPS or None in steps:
        return None
    return Path(text.startswith("self."), marks[0], tuple(steps))


def copied_part(text):
    """What a string that begins with `copy(` copies, and the number of floors; an empty string if it has no end."""
    if not text.endswith(")"):
        return ("", None)
    inside = text[5:-1]
    if inside[-3:] in COPY_ENDS:
        return (inside[:-3], int(inside[-1:]))
    return (inside, None)


def read_simple(text):
    """A path, a copy of a path, or a new value."""
    if text.startswith("new "):
        return New(Shape(text[4:])) if is_shape(text[4:]) else None
    if text.startswith("copy("):
        inside, floor_count = copied_part(text)
        path = read_path(inside)
        return None if path is None else Copy(path, floor_count)
    return read_path(text)


def read_wrap(text):
    """A wrapped function parameter."""
    parts = text[5:-1].split(", ")
    if not text.endswith(")") or len(parts) != 3 or not is_word(parts[0]):
        return None
    if parts[1] not in WRAP_FLOORS or parts[2] not in WRAP_FLOORS:
        return None
    return Wrap(parts[0], int(parts[1]), int(parts[2]))


def read_argument(text):
    """An argument of `super`."""
    if text in STEPS:
        return int(text)
    if text.startswith("wrap("):
        return read_wrap(text)
    return read_simple(text)


def read_super(text):
    """The call of the next definition with these arguments."""
    parts = [] if text == "" else parts_of(text)
    arguments = [read_argument(part) for part in parts]
    return None if None in arguments else SuperCall(tuple(arguments))


def read_call(text):
    """A call of a function parameter or of the next definition."""
    word, _, rest = text.partition("(")
    if not rest.endswith(")"):
        return None
    if word == "super":
        return read_super(rest[:-1])
    simple = read_simple(rest[:-1])
    if simple is None or not is_word(word):
        return None
    return Ask(word, simple)


def read_term(text):
    """A simple, a call, or a copy of what a call gives."""
    simple = read_simple(text)
    if simple is not None:
        return simple
    if text.startswith("copy("):
        inside, floor_count = copied_part(text)
        call = read_call(inside)
        return None if call is None else Copy(call, floor_count)
    return read_call(text)


def read_row(text):
    """A row, without the blanks before it."""
    left, sign, right = text.partition(" = ")
    path = None
    if text.startswith("return view "):
        way = "view"
        term = read_term(text[12:])
    elif text.startswith("return "):
        way = "return"
        term = read_term(text[7:])
    elif sign == "":
        way = "call"
        term = read_call(text)
    else:
        way = "set"
        term = read_term(right)
        path = read_path(left)
    if term is None or (way == "set" and path is None):
        return None
    return Row(way, path, term)
