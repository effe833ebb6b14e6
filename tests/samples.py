"""Texts and helpers that several tests share."""

from handedcopies.families import Library
from handedcopies.kepts import Kept

SHELF = """class Shelf:
    rows: [[.], [.]]
    def put(at: 2, row: [.]):
        self.rows[at] = row
    def get(at: 2):
        return self.rows[at]
class Guarded(Shelf):
    def get(at: 2):
        return copy(super(at))"""

# Values that are of no use as a string of any kind.
STRANGE_VALUES = (
    None, True, False, 0, 1, -1, 10 ** 29, "", " ", "\n", "x" * 100000, "[" * 100000, "(" * 100000,
    "[], " * 25000, [], (), [None], ("Shelf",), ["Shelf"], [["."]], (1, (True, ("rows",))), ["rows"] * 3000,
)


def kept_of(text, name):
    """The kept of a class of a text."""
    return Kept(Library(text), name)


def method_text(rows, parameters="", above=""):
    """A class A with the fields above and a method go with these rows."""
    lines = ["class A:"] + [f"    {field}" for field in above.split("; ") if field]
    lines.append(f"    def go({parameters}):")
    return "\n".join(lines + [f"        {row}" for row in rows])
