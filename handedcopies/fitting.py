"""Which rows fit, and the face of a definition (DOC.md, points 11 and 12)."""

from handedcopies.errors import BadRow
from handedcopies.rows import Ask, Copy, New, Path, SuperCall, Wrap, lone_word
from handedcopies.shapes import Shape


class Misfit(Exception):
    """A row that does not fit; only this file raises and catches it."""


class Scope:
    """What the rows of one definition know: shapes by word and field, and the face of the next definition."""

    def __init__(self, fields, parameters, following):
        self.fields = fields
        self.following = following
        self.words = {}
        self.indexes = {}
        self.functions = {}
        for word, kind in parameters:
            if isinstance(kind, str):
                self.words[word] = Shape(kind)
            elif isinstance(kind, int):
                self.indexes[word] = kind
            else:
                self.functions[word] = kind


def item_shape(scope, shape, step):
    """The shape of an item of a list."""
    if isinstance(step, int):
        if step >= len(shape):
            raise Misfit()
        return shape[step]
    many = scope.indexes.get(step)
    if many is None or many > len(shape):
        raise Misfit()
    # The index is known only when the method is called, so all items that it may mean must be alike.
    if any([shape[at] != shape[0] for at in range(many)]):
        raise Misfit()
    return shape[0]


def path_shape(scope, path):
    """The shape of what stands at a path."""
    known = scope.fields if path.of_self else scope.words
    if path.word not in known:
        raise Misfit()
    shape = known[path.word]
    for step in path.steps:
        shape = item_shape(scope, shape, step)
    return shape


def copy_shape(scope, term):
    """The shape of a copy."""
    shape = term_shape(scope, term.inner)
    if shape is None or shape.depth == 0:
        raise Misfit()
    if term.floor_count is not None and term.floor_count > shape.depth:
        raise Misfit()
    return shape


def ask_shape(scope, ask):
    """The shape of a function's reply, or None if it replies with nothing."""
    kind = scope.functions.get(ask.word)
    if kind is None or term_shape(scope, ask.simple).text != kind[0]:
        raise Misfit()
    return None if kind[1] is None else Shape(kind[1])


def super_shape(scope, call):
    """The shape of what the next definition returns, or None if it returns nothing."""
    if scope.following is None:
        raise Misfit()
    _, kinds, result = scope.following
    if len(kinds) != len(call.arguments):
        raise Misfit()
    for kind, argument in zip(kinds, call.arguments):
        if not takes(scope, kind, argument):
            raise Misfit()
    if result is None:
        return None
    return Shape(result) if isinstance(result, str) else Shape(result[1])


def takes(scope, kind, argument):
    """Whether a parameter of this kind takes an argument."""
    if isinstance(kind, str):
        return takes_value(scope, kind, argument)
    if isinstance(kind, int):
        return takes_index(scope, kind, argument)
    return takes_function(scope, kind, argument)


def takes_value(scope, kind, argument):
    """Whether an argument is a simple with the shape of a list parameter or a plain one."""
    if isinstance(argument, int) or isinstance(argument, Wrap):
        return False
    return term_shape(scope, argument).text == kind


def takes_index(scope, many, argument):
    """Whether an argument is always below the number of an index parameter."""
    if isinstance(argument, int):
        return argument < many
    word = lone_word(argument)
    return word in scope.indexes and scope.indexes[word] <= many


def takes_function(scope, kind, argument):
    """Whether an argument is a function parameter of this kind, perhaps a wrapped one."""
    if not isinstance(argument, Wrap):
        return scope.functions.get(lone_word(argument)) == kind
    if scope.functions.get(argument.word) != kind:
        return False
    back_depth = 0 if kind[1] is None else Shape(kind[1]).depth
    return argument.out_floors <= Shape(kind[0]).depth and argument.back_floors <= back_depth


def term_shape(scope, term):
    """The shape of a term, or None for a call without a shape."""
    if isinstance(term, Path):
        return path_shape(scope, term)
    if isinstance(term, Copy):
        return copy_shape(scope, term)
    if isinstance(term, New):
        return term.shape
    if isinstance(term, Ask):
        return ask_shape(scope, term)
    assert isinstance(term, SuperCall)
    return super_shape(scope, term)


def bind(scope, path, shape):
    """Sets what stands at a path to a value of this shape."""
    word = lone_word(path)
    if word is not None:
        scope.words[word] = shape
    elif path_shape(scope, path) != shape:
        raise Misfit()


def row_result(scope, row):
    """What a row returns, as in a face; for a row that is no return this is None."""
    shape = term_shape(scope, row.term)
    if row.way == "call":
        return None
    if shape is None or (row.way == "view" and shape.depth == 0):
        raise Misfit()
    if row.way == "set":
        bind(scope, row.path, shape)
        return None
    return ("view", shape.text) if row.way == "view" else shape.text


def face_of(definition, fields, following):
    """The face of a definition; fields are Shapes by name, following is the next definition's face or None.

    Raises BadRow at the first row that does not fit.
    """
    scope = Scope(fields, definition.parameters, following)
    result = None
    for at, row in enumerate(definition.rows):
        try:
            result = row_result(scope, row)
        except Misfit:
            raise BadRow(definition.owner, definition.name, at) from None
    return (definition.mark, tuple([kind for _, kind in definition.parameters]), result)
