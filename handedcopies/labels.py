"""Labels of calls, and what the marks allow (DOC.md, points 19 and 22)."""

RETURNED = -1


def allows(mark, is_open):
    """Whether a method with this mark can be called while the object is open or closed."""
    if mark == "enter":
        return not is_open
    return is_open or mark == "def"


def open_behind(mark, is_open, has_returned):
    """Whether the object is open behind a call that has returned or was ended by a raise."""
    if mark == "enter":
        return has_returned
    return is_open and mark == "def"


def index_rows(kinds):
    """All rows of integers that can be passed for the index parameters among these kinds, ascending."""
    found = [()]
    for kind in kinds:
        if isinstance(kind, int):
            found = [row + (at,) for row in found for at in range(kind)]
    return found


def calls_of(kept):
    """All (method, indexes) that can be called, ascending."""
    return [(method, indexes) for method in kept.methods for indexes in index_rows(kept.face(method)[1])]


def are_indexes(kinds, indexes):
    """Whether a value, of any kind, is a tuple of integers for the index parameters among these kinds."""
    bounds = [kind for kind in kinds if isinstance(kind, int)]
    if not isinstance(indexes, tuple) or len(indexes) != len(bounds):
        return False
    return all([type(at) is int and 0 <= at < bound for at, bound in zip(indexes, bounds)])


def is_label(kept, label):
    """Whether a value, of any kind, is a label of a kept."""
    if not isinstance(label, tuple) or len(label) != 3:
        return False
    method, indexes, ending = label
    if method not in kept.methods or not are_indexes(kept.face(method)[1], indexes):
        return False
    return type(ending) is int and RETURNED <= ending < kept.asks(method)
