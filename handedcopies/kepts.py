"""Kepts: a class with everything that it inherits (DOC.md, points 10 to 12)."""

from handedcopies.errors import BadField, BadMethod, BadPlace, TooMany
from handedcopies.fitting import face_of
from handedcopies.rows import has_ask, has_super
from handedcopies.shapes import Shape

MOST_FIELDS = 4
MOST_LISTS = 8
MOST_METHODS = 5
MOST_ASKS = 4
MOST_LABELS = 60


def agreed_fields(classes):
    """The fields of the classes of an order as (name, text); raises BadField if shapes are unlike."""
    found = {}
    for part in reversed(list(classes)):
        for name, text in part.fields.items():
            found.setdefault(name, []).append(text)
    for name, texts in found.items():
        if texts.count(texts[0]) < len(texts):
            raise BadField(name)
    return [(name, texts[0]) for name, texts in found.items()]


def method_names(classes):
    """The names of all methods of some classes, ascending."""
    names = []
    for part in classes:
        names.extend(list(part.definitions))
    return sorted(set(names))


def check_sizes(fields, methods):
    """Raises TooMany if there are too many fields, lists or methods."""
    if len(fields) > MOST_FIELDS:
        raise TooMany("fields")
    if sum([Shape(text).lists for _, text in fields]) > MOST_LISTS:
        raise TooMany("lists")
    if len(methods) > MOST_METHODS:
        raise TooMany("methods")


def agreed_face(definitions, shapes):
    """The face that all definitions of a method have, in their order; raises BadRow or BadMethod."""
    face = None
    # Each definition needs the face of the next one, so the last comes first.
    for definition in reversed(list(definitions)):
        found = face_of(definition, shapes, face)
        if face is not None and found != face:
            raise BadMethod(definition.owner, definition.name)
        face = found
    return face


def asking_rows(definitions):
    """The rows with an ask that a call does which runs the first of these definitions, as (definition, row)."""
    found = []
    for definition in definitions:
        found.extend([(definition, row) for row in definition.rows if has_ask(row)])
        if not any([has_super(row) for row in definition.rows]):
            return found
    return found


def count_labels(face, asked):
    """How many labels a method has with this face and so many asks in a call."""
    many = asked + 1
    for kind in face[1]:
        if isinstance(kind, int):
            many = many * kind
    return many


def lists_below(place, shape):
    """The lists of a value of this shape that stands at a place, as (place, text)."""
    if shape.depth == 0:
        return []
    found = [(place, shape.text)]
    for at, item in enumerate(shape):
        found.extend(lists_below(f"{place}[{at}]", item))
    return found


class Kept:
    """A class of a library with its fields and methods, its own and inherited ones."""

    def __init__(self, library, name):
        classes = [library.class_named(owner) for owner in library.order(name)]
        fields = agreed_fields(classes)
        methods = method_names(classes)
        check_sizes(fields, methods)
        self.library = library
        self.name = name
        self.fields = tuple(fields)
        self.methods = tuple(methods)
        self._definitions = {}
        self._faces = {}
        self._shapes = {}
        for field, text in fields:
            self._shapes.update(lists_below(field, Shape(text)))
        self._check_methods(classes)

    def _check_methods(self, classes):
        shapes = {field: Shape(text) for field, text in self.fields}
        for method in self.methods:
            definitions = [part.definitions[method] for part in classes if method in part.definitions]
            self._definitions[method] = definitions
            self._faces[method] = agreed_face(definitions, shapes)
        if any([self.asks(method) > MOST_ASKS for method in self.methods]):
            raise TooMany("asks")
        if sum([count_labels(self._faces[method], self.asks(method)) for method in self.methods]) > MOST_LABELS:
            raise TooMany("labels")

    def owners(self, method):
        """The classes with the definitions of a method, in their order."""
        return [definition.owner for definition in self._definitions[method]]

    def definitions_of(self, method):
        """The definitions of a method, in their order, with their rows."""
        return list(self._definitions[method])

    def face(self, method):
        """The mark of a method, the kinds of its parameters, and what it returns."""
        return self._faces[method]

    def asks(self, method):
        """How many asks a call of a method has."""
        return len(asking_rows(self._definitions[method]))

    def places(self):
        """All places, a list before what is below it."""
        yield from self._shapes

    def goals(self):
        """All goals."""
        found = []
        for place in self.places():
            found.append(place)
            found.append(f"seen {place}")
        return found + ["outside"]

    def shape_at(self, place):
        """The text of the shape of the list at a place."""
        if not isinstance(place, str) or place not in self._shapes:
            raise BadPlace(place)
        return self._shapes[place]

    def __eq__(self, other):
        return isinstance(other, Kept) and self.library == other.library and self.name == other.name
