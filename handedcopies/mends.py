"""Doors of a kept, mends of its doors, and the classes that show them (DOC.md, points 27, 28 and 31)."""

from handedcopies.errors import BadMend, BadName, NoDoor, TooMany
from handedcopies.families import Library
from handedcopies.shapes import Shape
from handedcopies.texts import MOST_CLASSES
from handedcopies.words import SMALL_LETTERS, is_class_name, is_word

BACK = "back"
IN = "in"
OUT = "out"
RESULT = "result"
WAYS = ("back", "in", "out", "result")
NO_PARAMETER = -1
MOST_PARAMETER = 2
MOST_FLOORS = 3


def is_door(door):
    """Whether a value, of any kind, is a door by form."""
    if not isinstance(door, tuple) or len(door) != 3:
        return False
    method, way, at = door
    if not isinstance(method, str) or not is_word(method) or way not in WAYS or type(at) is not int:
        return False
    return NO_PARAMETER <= at <= MOST_PARAMETER and (at == NO_PARAMETER) == (way == RESULT)


def is_pair(pair):
    """Whether a value, of any kind, is a door by form with a number of floors."""
    if not isinstance(pair, tuple) or len(pair) != 2:
        return False
    door, many = pair
    return is_door(door) and type(many) is int and 1 <= many <= MOST_FLOORS


class Mend:
    """How many floors are copied at some doors."""

    def __init__(self, *pairs):
        floors_at = {}
        for at, pair in enumerate(pairs):
            if not is_pair(pair) or pair[0] in floors_at:
                raise BadMend(at)
            floors_at[pair[0]] = pair[1]
        self.pairs = tuple(sorted(list(floors_at.items())))
        self._floors_at = floors_at

    @staticmethod
    def none():
        """The mend without doors."""
        return Mend()

    @classmethod
    def all_of(cls, kept):
        """The mend that copies all floors at all doors of a kept."""
        pairs = doors(kept)
        return Mend(*pairs)

    @property
    def floors(self):
        """The floors of all doors together."""
        return sum([many for _, many in self.pairs])

    def within(self, other):
        """Whether the other mend copies at least as many floors at each door."""
        return all([many <= other[door] for door, many in self.pairs])

    def __len__(self):
        return len(self.pairs)

    def __getitem__(self, door):
        return self._floors_at.get(door, 0)

    def __iter__(self):
        return iter(self.pairs)

    def __bool__(self):
        return bool(self.pairs != ())

    def __eq__(self, other):
        return isinstance(other, Mend) and self.pairs == other.pairs

    def __or__(self, other):
        greater = [(door, max(many, other[door])) for door, many in self.pairs]
        added = [pair for pair in other.pairs if self[pair[0]] == 0]
        pairs = greater + added
        return Mend(*pairs)

    def __and__(self, other):
        lesser = [(door, min(many, other[door])) for door, many in self.pairs if other[door] > 0]
        return Mend(*lesser)


def depth_in(text):
    """The depth of a shape with this text; 0 where there is none."""
    return 0 if text is None else Shape(text).depth


def doors_of(method, face):
    """The doors of a method with this face, with their floors, 0 where no list can cross."""
    _, kinds, result = face
    found = []
    for at, kind in enumerate(kinds):
        if isinstance(kind, str):
            found.append(((method, IN, at), depth_in(kind)))
        elif isinstance(kind, tuple):
            found.append(((method, OUT, at), depth_in(kind[0])))
            found.append(((method, BACK, at), depth_in(kind[1])))
    text = result[1] if isinstance(result, tuple) else result
    found.append(((method, RESULT, NO_PARAMETER), depth_in(text)))
    return found


def doors(kept):
    """All doors of a kept with their floors, ascending."""
    found = []
    for method in kept.methods:
        found.extend([pair for pair in doors_of(method, kept.face(method)) if pair[1] > 0])
    return sorted(found)


def is_mend_of(kept, pairs):
    """Whether a value, of any kind, is the pairs of a mend of a kept, ascending."""
    if not isinstance(pairs, tuple) or not all([is_pair(pair) for pair in pairs]):
        return False
    floors_at = dict(doors(kept))
    if any([many > floors_at.get(door, 0) for door, many in pairs]):
        return False
    return [door for door, _ in pairs] == sorted(set([door for door, _ in pairs]))


def check_doors(kept, mend):
    """Raises NoDoor for the first door of a mend that a kept does not have, or not with so many floors."""
    floors_at = dict(doors(kept))
    for door, many in mend.pairs:
        if many > floors_at.get(door, 0):
            raise NoDoor(door)


def check_mended(kept, mend, name):
    """Raises an error if there can be no class with this name, any value, that shows the mend."""
    if not isinstance(name, str) or not is_class_name(name) or name in kept.library:
        raise BadName(name)
    check_doors(kept, mend)
    if len(kept.library) == MOST_CLASSES:
        raise TooMany("classes")


def free_name(library):
    """A name for a mended class that no class of a library has."""
    names = ["Mended"] + [f"Mended{letter}" for letter in SMALL_LETTERS]
    return [name for name in names if name not in library][0]


def kind_text(kind):
    """The kind of a parameter as a method line has it."""
    if isinstance(kind, tuple):
        reply = "none" if kind[1] is None else kind[1]
        return f"{kind[0]} -> {reply}"
    return str(kind)


def argument_text(mend, method, at, parameter):
    """What the method of a mended class passes on for a parameter."""
    word, kind = parameter
    if isinstance(kind, tuple):
        out_floors, back_floors = mend[method, OUT, at], mend[method, BACK, at]
        return word if out_floors + back_floors == 0 else f"wrap({word}, {out_floors}, {back_floors})"
    many = mend[method, IN, at]
    return word if many == 0 else f"copy({word}, {many})"


def row_text(mend, method, parameters, result):
    """The one row of a method of a mended class."""
    arguments = [argument_text(mend, method, at, parameter) for at, parameter in enumerate(parameters)]
    passed_on = ", ".join(arguments)
    call = f"super({passed_on})"
    if result is None:
        return call
    many = mend[method, RESULT, NO_PARAMETER]
    term = call if many == 0 else f"copy({call}, {many})"
    return f"return view {term}" if isinstance(result, tuple) else f"return {term}"


def method_lines(kept, mend, method):
    """The lines of a method of a mended class."""
    mark, _, result = kept.face(method)
    parameters = kept.definitions_of(method)[0].parameters
    shown = ", ".join([f"{word}: {kind_text(kind)}" for word, kind in parameters])
    row = row_text(mend, method, parameters, result)
    return [f"    {mark} {method}({shown}):", f"        {row}"]


def mend_text(kept, mend, *, name="Mended"):
    """The lines of the class that shows a mend."""
    check_mended(kept, mend, name)
    lines = [f"class {name}({kept.name}):"]
    for method in sorted(set([door[0] for door, _ in mend.pairs])):
        lines.extend(method_lines(kept, mend, method))
    return "\n".join(lines)


def mended(kept, mend, *, name="Mended"):
    """The kept of the class that shows a mend, in the library with its lines behind."""
    lines = mend_text(kept, mend, name=name)
    return Library.of(kept.library.text, lines).kept_of(name)
