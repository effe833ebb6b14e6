"""Whether two kepts have the same face, and how many lists a trial of them has (DOC.md, points 32 and 35)."""

from handedcopies.errors import TooMany, UnlikeFaces
from handedcopies.kepts import asking_rows
from handedcopies.rows import uncopied
from handedcopies.shapes import Shape

MOST_LISTS = 10


def check_faces(one, other):
    """Raises UnlikeFaces for the first method that two kepts do not have with one face."""
    for method in sorted(set(one.methods + other.methods)):
        if method not in one.methods or method not in other.methods or one.face(method) != other.face(method):
            raise UnlikeFaces(method)


def lists_in(texts):
    """The number of lists in the shapes with these texts; None stands for no value."""
    return sum([Shape(text).lists for text in texts if text is not None])


def inside_lists(kept):
    """The number of lists in the shapes of all fields."""
    return lists_in([text for _, text in kept.fields])


def passed_lists(kept, method):
    """The number of lists in the shapes of the parameters of a method."""
    return lists_in([kind for kind in kept.face(method)[1] if isinstance(kind, str)])


def replied_lists(kept, method):
    """The number of lists in the shapes of the replies of all asks of a call."""
    asking = asking_rows(kept.definitions_of(method))
    return lists_in([dict(definition.parameters)[uncopied(row).word][1] for definition, row in asking])


def check_lists(one, other):
    """Raises TooMany if a trial of two kepts with one face may have too many lists."""
    inside = inside_lists(one) + inside_lists(other)
    for method in one.methods:
        turns = 1 + max(one.asks(method), other.asks(method))
        replied = max(replied_lists(one, method), replied_lists(other, method))
        if turns * (inside + passed_lists(one, method) + replied) > MOST_LISTS:
            raise TooMany("lists")
