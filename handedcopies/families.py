"""Libraries: the classes of a text and their orders (DOC.md, points 8 and 9)."""

from handedcopies.errors import BadLine, NoClass
from handedcopies.kepts import Kept
from handedcopies.texts import Reader, lines_of


class Library:
    """The classes of a text."""

    def __init__(self, text):
        if not isinstance(text, str):
            raise BadLine(-1)
        reader = Reader()
        for at, line in enumerate(lines_of(text)):
            if not reader.take(line):
                raise BadLine(at)
        self.text = text
        self.names = tuple(list(reader.classes))
        self._classes = reader.classes

    @classmethod
    def of(cls, *texts):
        """The library of some texts, one below the other."""
        return cls("\n".join([text for text in texts if text != ""]))

    def order(self, name):
        """The order of a class."""
        return list(self.class_named(name).lineage)

    def kept_of(self, name):
        """The kept of a class."""
        return Kept(self, name)

    def class_named(self, name):
        """A class as the text writes it."""
        if name not in self:
            raise NoClass(name)
        return self._classes[name]

    def __len__(self):
        return len(self.names)

    def __contains__(self, name):
        return isinstance(name, str) and name in self._classes

    def __iter__(self):
        return iter(self.names)

    def __eq__(self, other):
        return isinstance(other, Library) and self.text == other.text

    def __str__(self):
        return f"{self.text}"
