"""Shapes of values (DOC.md, point 4)."""

from handedcopies.errors import BadShape
from handedcopies.words import parts_of

MOST_DEPTH = 3
MOST_ITEMS = 3
MOST_LISTS = 5


def is_shape(text):
    """Whether a string is the text of a shape."""
    return text.count("[") <= MOST_LISTS and has_form(text, MOST_DEPTH)


def has_form(text, floors):
    """Whether a string is written as a shape with a depth of at most so many floors."""
    if text == ".":
        return True
    if floors == 0 or not text.startswith("[") or not text.endswith("]"):
        return False
    parts = parts_of(text[1:-1])
    return len(parts) <= MOST_ITEMS and all([has_form(part, floors - 1) for part in parts])


class Shape:
    """A plain value, or a list that always has the same items."""

    def __init__(self, text):
        if not isinstance(text, str) or not is_shape(text):
            raise BadShape(text)
        self.text = text
        self._parts = () if text == "." else tuple([Shape(part) for part in parts_of(text[1:-1])])
        self._depth = max([0] + [part.depth + 1 for part in self._parts])
        self._lists = text.count("[")

    @property
    def depth(self):
        """How many floors of lists the shape has; 0 for a plain value."""
        return self._depth

    @property
    def lists(self):
        """How many lists the shape has, with itself."""
        return self._lists

    def __len__(self):
        return len(self._parts)

    def __getitem__(self, at):
        return self._parts[at]

    def __iter__(self):
        return iter(self._parts)

    def __eq__(self, other):
        return isinstance(other, Shape) and self.text == other.text

    def __str__(self):
        return f"{self.text}"

    def __repr__(self):
        return f"Shape({self.text})"
