"""Joint worlds: how they are written, and how they are read (DOC.md, points 33, 34 and 36)."""

from handedcopies.boxes import BLANK, HELD, HIDDEN, Box
from handedcopies.shapes import Shape

NOWHERE = -1
FIRST = 0
SECOND = 1


def could_part(views):
    """Whether a put could part two runs, whose views show these pairs of boxes."""
    # Held lists have one number on both sides, and only lists that are not held have none.
    return any([one.hand != other.hand for one, other in views])


class JointWriter:
    """Writes codes; a list is known by its hand if it is held, and by its box otherwise."""

    def __init__(self):
        self.held_hands = []
        self._numbers = {}
        self._plains = {BLANK: 0}

    def codes_of(self, fields):
        """The codes of one side, whose fields are a dict of values; the first side comes first."""
        codes = []
        for value in fields.values():
            self._add(value, codes)
        return tuple(codes)

    def _add(self, value, codes):
        if not isinstance(value, Box):
            codes.append(self._plains.setdefault(value, len(self._plains)))
            return
        key = value if value.hand is None else value.hand
        if key in self._numbers:
            codes.append(self._numbers[key])
            return
        self._numbers[key] = len(self._numbers)
        if value.hand is not None:
            self.held_hands.append(value.hand)
            codes.append(HELD)
        else:
            codes.append(HIDDEN)
            for cell in value.cells:
                self._add(cell, codes)

    def windows_of(self, views):
        """The windows, once both sides are written; views are pairs of boxes that no put could part."""
        pairs = [(self._numbers.get(one, NOWHERE), self._numbers.get(other, NOWHERE))
                 for one, other in views if one.hand is None]
        return tuple(sorted(set([pair for pair in pairs if pair != (NOWHERE, NOWHERE)])))


def joint_form(is_open, fields, views):
    """The joint world of two sides; fields is a pair of dicts, views as for JointWriter."""
    writer = JointWriter()
    one = writer.codes_of(fields[FIRST])
    other = writer.codes_of(fields[SECOND])
    return (is_open, one, other, writer.windows_of(views))


class Met:
    """A list of a joint world: its shape, the side where it was first met, whether it is held, and its items.

    The items of a list that is not held are numbers: of lists, or of plain values.
    """

    def __init__(self, shape, side, is_held):
        self.shape = shape
        self.side = side
        self.is_held = is_held
        self.numbers = []


class JointReader:
    """Goes through a joint world as point 33 does; met_lists has what was met, by number."""

    def __init__(self, kepts):
        self.met_lists = []
        self.fields = ([], [])
        self.windows = ()
        self.plains = 0
        self._kepts = kepts
        self._codes = ()
        self._at = 0

    def take_all(self, form):
        """Goes through a value of any kind and tells whether it is a joint world by form."""
        if not isinstance(form, tuple) or len(form) != 4 or not isinstance(form[0], bool):
            return False
        _, one, other, self.windows = form
        return self._take_side(FIRST, one) and self._take_side(SECOND, other) and self._are_windows(self.windows)

    def _take_side(self, side, codes):
        if not isinstance(codes, tuple) or not all([type(code) is int for code in codes]):
            return False
        self._codes = codes
        self._at = 0
        for _, text in self._kepts[side].fields:
            number = self._take(side, Shape(text))
            if number is None:
                return False
            self.fields[side].append(number)
        return self._at == len(codes)

    def _take(self, side, shape):
        """The number of the next list or plain value, None if its code is wrong."""
        if self._at == len(self._codes):
            return None
        code = self._codes[self._at]
        self._at += 1
        if shape.depth == 0:
            return self._take_plain(code)
        if code in (HELD, HIDDEN):
            return self._meet(side, shape, code == HELD)
        return code if self._is_met(side, shape, code) else None

    def _take_plain(self, code):
        if not 0 <= code <= self.plains + 1:
            return None
        self.plains = max(self.plains, code)
        return code

    def _meet(self, side, shape, is_held):
        number = len(self.met_lists)
        met = Met(shape.text, side, is_held)
        self.met_lists.append(met)
        if is_held:
            return number
        for item in shape:
            part = self._take(side, item)
            if part is None:
                return None
            met.numbers.append(part)
        return number

    def _is_met(self, side, shape, number):
        if not 0 <= number < len(self.met_lists):
            return False
        met = self.met_lists[number]
        return met.shape == shape.text and (met.is_held or met.side == side)

    def _are_windows(self, windows):
        if not isinstance(windows, tuple) or not all([self._is_window(pair) for pair in windows]):
            return False
        return windows == tuple(sorted(set(windows)))

    def _is_window(self, pair):
        if not isinstance(pair, tuple) or len(pair) != 2 or not all([type(part) is int for part in pair]):
            return False
        one, other = pair
        if not self._can_show(FIRST, one) or not self._can_show(SECOND, other):
            return False
        if one == NOWHERE or other == NOWHERE:
            return one != other
        met, other_met = self.met_lists[one], self.met_lists[other]
        return met.shape == other_met.shape and met.numbers == other_met.numbers

    def _can_show(self, side, number):
        """Whether a window can have this number on this side."""
        if number == NOWHERE:
            return True
        if not 0 <= number < len(self.met_lists):
            return False
        met = self.met_lists[number]
        if met.is_held or met.side != side:
            return False
        # The caller sees the items of a list that a view shows, so it holds the lists among them.
        parts = [part for item, part in zip(Shape(met.shape), met.numbers) if item.depth > 0]
        return all([self.met_lists[part].is_held for part in parts])


def read_joint(kepts, form):
    """A reader that has gone through a joint world by form."""
    reader = JointReader(kepts)
    reader.take_all(form)
    return reader
