"""The lists of a run, and what is done with whole lists (DOC.md, points 13, 14 and 21)."""

BLANK = 0
HELD = -3
SHOWN = -2
HIDDEN = -1


class Box:
    """A list; shape is a text, hand is the caller's number of the list, or None if the caller does not hold it.

    In a trial a cell may be None: then the item is what the caller has put there, and source, an object with a method
    told_item(box, at), tells it when it is needed. In a run no cell is ever None.
    """

    def __init__(self, shape, cells):
        self.shape = shape
        self.cells = cells
        self.hand = None
        self.is_shown = False
        self.source = None

    def item(self, at):
        """The item with this index."""
        cell = self.cells[at]
        return self.source.told_item(self, at) if cell is None else cell


def blank_of(shape):
    """A new value of a Shape, with blanks at its plain places."""
    if shape.depth == 0:
        return BLANK
    return Box(shape.text, [blank_of(item) for item in shape])


def copied(value, floors):
    """A value with copies of the lists on its first floors; a list that stands at two places becomes two."""
    if floors == 0 or not isinstance(value, Box):
        return value
    return Box(value.shape, [copied(value.item(at), floors - 1) for at in range(len(value.cells))])


def shown_value(value):
    """A value with new lists in the place of boxes."""
    if not isinstance(value, Box):
        return value
    return [shown_value(cell) for cell in value.cells]


def shown_cell(value):
    """What the caller is told of an item that it sees: the hand of a list, or a plain value."""
    return value.hand if isinstance(value, Box) else value


def add_codes(value, codes, numbers):
    """Puts the codes of a value behind those of the values before; numbers tells which lists were met."""
    if not isinstance(value, Box):
        return
    if value.hand is not None:
        codes.append(HELD)
    elif value in numbers:
        codes.append(numbers[value])
    else:
        numbers[value] = len(numbers)
        codes.append(SHOWN if value.is_shown else HIDDEN)
        for cell in value.cells:
            add_codes(cell, codes, numbers)


def codes_of(fields):
    """The codes of fields, a dict of values, as a world has them."""
    codes = []
    numbers = {}
    for value in fields.values():
        add_codes(value, codes, numbers)
    return tuple(codes)
