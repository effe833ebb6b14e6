"""All errors of the package; each keeps the values that it is made with."""


class HandedcopiesError(ValueError):
    """The base of all errors about wrong values."""


class BadShape(HandedcopiesError):
    """A value that is no shape."""

    def __init__(self, text):
        self.text = text


class BadLine(HandedcopiesError):
    """A text with a wrong line; -1 stands for a text that is no string."""

    def __init__(self, at):
        self.at = at


class NoClass(HandedcopiesError):
    """A value that is no class of the library."""

    def __init__(self, name):
        self.name = name


class BadField(HandedcopiesError):
    """A field with unlike shapes in the classes of one order."""

    def __init__(self, name):
        self.name = name


class TooMany(HandedcopiesError):
    """Something that goes beyond a bound."""

    def __init__(self, what):
        self.what = what


class BadRow(HandedcopiesError):
    """A row of a definition that does not fit."""

    def __init__(self, owner, method, at):
        self.owner = owner
        self.method = method
        self.at = at


class BadMethod(HandedcopiesError):
    """A definition whose face is unlike that of the last one in the order."""

    def __init__(self, owner, method):
        self.owner = owner
        self.method = method


class BadDeed(HandedcopiesError):
    """A value that is no deed that can be done now."""

    def __init__(self, deed):
        self.deed = deed


class BadPlace(HandedcopiesError):
    """A value that is no place of the kept."""

    def __init__(self, place):
        self.place = place


class BadWorld(HandedcopiesError):
    """A value that is no world by form."""

    def __init__(self, form):
        self.form = form


class BadLabel(HandedcopiesError):
    """A value that is no label of the kept."""

    def __init__(self, label):
        self.label = label


class BadGoal(HandedcopiesError):
    """A value that is no goal of the kept."""

    def __init__(self, goal):
        self.goal = goal


class BadWhen(HandedcopiesError):
    """A value that does not tell when a place is looked at."""

    def __init__(self, when):
        self.when = when


class BadMend(HandedcopiesError):
    """A mend with a wrong pair."""

    def __init__(self, at):
        self.at = at


class NoDoor(HandedcopiesError):
    """A door that the kept does not have, or not with so many floors."""

    def __init__(self, door):
        self.door = door


class BadName(HandedcopiesError):
    """A value that cannot be the name of a new class."""

    def __init__(self, name):
        self.name = name


class UnlikeFaces(HandedcopiesError):
    """A method that two kepts do not have with the same face."""

    def __init__(self, method):
        self.method = method


class Busy(RuntimeError):
    """The object waits for a reply."""


class NotAsked(RuntimeError):
    """There is no ask to reply to."""


class Shut(RuntimeError):
    """A method whose mark forbids its call now."""

    def __init__(self, method):
        self.method = method
