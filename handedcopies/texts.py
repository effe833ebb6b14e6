"""The lines of a text and the classes that they make (DOC.md, points 5, 7 and 9)."""

from handedcopies.rows import has_super, lone_word, read_row
from handedcopies.shapes import is_shape
from handedcopies.words import is_class_name, is_word, parts_of

MARKS = ("def", "enter", "exit")
INDEX_KINDS = ("1", "2", "3")
MOST_CLASSES = 8
MOST_BASES = 3
MOST_FIELDS = 4
MOST_METHODS = 5
MOST_PARAMETERS = 3
MOST_ROWS = 6


class Definition:
    """A method as one class writes it; parameters is a tuple of (word, kind), kinds as in a face."""

    def __init__(self, owner, name, mark, parameters):
        self.owner = owner
        self.name = name
        self.mark = mark
        self.parameters = parameters
        self.rows = []


class ClassText:
    """A class as the text writes it, with the names of the classes of its order."""

    def __init__(self, name, lineage):
        self.name = name
        self.lineage = lineage
        self.fields = {}
        self.definitions = {}


def lines_of(text):
    """The lines of a text."""
    return [] if text == "" else text.split("\n")


def next_merged(rows):
    """The class that a merge takes next from rows that are not empty, or None if there is none."""
    for row in rows:
        if not any([row[0] in other[1:] for other in rows]):
            return row[0]
    return None


def merged(rows):
    """The merge of rows of classes, or None if there is none."""
    found = []
    rest = [row for row in rows if row]
    while rest:
        taken = next_merged(rest)
        if taken is None:
            return None
        found.append(taken)
        cut = [row[1:] if row[0] == taken else row for row in rest]
        rest = [row for row in cut if row]
    return found


def read_class_line(line):
    """The name and the bases of a class line, or None if it does not have the form."""
    if not line.startswith("class ") or not line.endswith(":"):
        return None
    name, bracket, rest = line[6:-1].partition("(")
    if not is_class_name(name):
        return None
    if bracket == "":
        return (name, [])
    bases = rest[:-1].split(", ")
    if not rest.endswith(")") or len(bases) > MOST_BASES:
        return None
    return (name, bases)


def read_kind(text):
    """What stands behind a parameter's word, as in a face, or None if it does not have the form."""
    if text in INDEX_KINDS:
        return int(text)
    if is_shape(text):
        return text
    given, _, reply = text.partition(" -> ")
    if not is_shape(given) or (reply != "none" and not is_shape(reply)):
        return None
    return (given, None if reply == "none" else reply)


def read_parameter(text):
    """The word and the kind of a parameter, or None if it does not have the form."""
    word, _, rest = text.partition(": ")
    kind = read_kind(rest)
    if kind is None or not is_word(word):
        return None
    return (word, kind)


def read_parameters(text):
    """The parameters of a method line, or None if they are not right."""
    parts = [] if text == "" else parts_of(text)
    found = [read_parameter(part) for part in parts]
    if None in found or len(found) > MOST_PARAMETERS or len(dict(found)) < len(found):
        return None
    return tuple(found)


def can_stand(row, definition):
    """Whether a row may stand below the rows that a definition has."""
    above = definition.rows
    if len(above) == MOST_ROWS or (above and above[-1].way in ("return", "view")):
        return False
    if has_super(row) and any([has_super(other) for other in above]):
        return False
    # Only the words of lists and plain values may be bound again.
    kind = dict(definition.parameters).get(lone_word(row.path), "")
    return isinstance(kind, str)


class Reader:
    """Takes the lines of a text one after another and keeps the classes read so far."""

    def __init__(self):
        self.classes = {}
        self._owner = None
        self._method = None

    def take(self, line):
        """Takes the next line and tells whether it is right; behind a wrong one nothing is taken."""
        if line.startswith("        "):
            return self._take_row(line[8:])
        if line.startswith("    "):
            return self._take_member(line[4:])
        return self._take_class(line)

    def _take_class(self, line):
        head = read_class_line(line)
        if head is None or head[0] in self.classes or len(self.classes) == MOST_CLASSES:
            return False
        name, bases = head
        if not all([base in self.classes and bases.count(base) == 1 for base in bases]):
            return False
        behind = merged([self.classes[base].lineage for base in bases] + [bases])
        if behind is None:
            return False
        self._owner = ClassText(name, [name] + behind)
        self._method = None
        self.classes[name] = self._owner
        return True

    def _take_member(self, text):
        mark, _, rest = text.partition(" ")
        if self._owner is None:
            return False
        if mark in MARKS:
            return self._take_method(mark, rest)
        return self._take_field(text)

    def _take_field(self, text):
        word, _, shape = text.partition(": ")
        fields = self._owner.fields
        if self._method is not None or word in fields or len(fields) == MOST_FIELDS:
            return False
        if not is_word(word) or not is_shape(shape):
            return False
        fields[word] = shape
        return True

    def _take_method(self, mark, text):
        word, _, rest = text.partition("(")
        definitions = self._owner.definitions
        if not is_word(word) or word in definitions or len(definitions) == MOST_METHODS:
            return False
        parameters = read_parameters(rest[:-2])
        if parameters is None or not rest.endswith("):"):
            return False
        self._method = Definition(self._owner.name, word, mark, parameters)
        definitions[word] = self._method
        return True

    def _take_row(self, text):
        row = read_row(text)
        if row is None or self._method is None or not can_stand(row, self._method):
            return False
        self._method.rows.append(row)
        return True
