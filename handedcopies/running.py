"""Runs: an object of a kept and a caller that does deeds with it (DOC.md, points 13 to 20)."""

from handedcopies.boxes import blank_of, codes_of, shown_cell, shown_value
from handedcopies.callers import Caller
from handedcopies.engines import Engine
from handedcopies.errors import BadDeed, Busy, NotAsked, Shut
from handedcopies.labels import RETURNED, allows, open_behind
from handedcopies.shapes import Shape, is_shape

DEED_LENGTHS = {"make": 2, "put": 4, "call": 3, "reply": 2, "raise": 1}
PLAIN = "."


def has_deed_form(deed):
    """Whether a value, of any kind, is a tuple with the first word and the length of a deed."""
    if not isinstance(deed, tuple) or len(deed) == 0 or not isinstance(deed[0], str):
        return False
    return DEED_LENGTHS.get(deed[0]) == len(deed)


def fits(caller, kind, argument):
    """Whether a value, of any kind, can be given for a parameter of this kind, or as a reply of this shape."""
    if isinstance(kind, int):
        return type(argument) is int and 0 <= argument < kind
    if isinstance(kind, str) and kind != PLAIN:
        box = caller.list_of(argument)
        return box is not None and box.shape == kind
    return argument is None


def given(caller, kind, hand):
    """What the caller gives with a hand, or with None, for a list or a plain value, or for nothing."""
    if kind == PLAIN:
        return caller.new_value()
    return caller.list_of(hand)


class Run:
    """A new object of a kept, and a caller that holds nothing yet."""

    BLANK = 0

    def __init__(self, kept):
        self.kept = kept
        self._caller = Caller()
        self._engine = Engine({name: blank_of(Shape(text)) for name, text in kept.fields}, self._caller)
        self._opened = False
        self._report = None
        self._called = None
        self._indexes = ()
        self._asks_done = 0
        self._ended = []
        self._begun = 0

    def do(self, deed):
        """Does a deed and returns its report."""
        if not has_deed_form(deed):
            raise BadDeed(deed)
        word = deed[0]
        if word == "make":
            self._report = self._make(deed)
        elif word == "put":
            self._report = self._put(deed)
        elif word == "call":
            self._report = self._call(deed)
        elif word == "reply":
            self._report = self._reply(deed)
        else:
            self._report = self._raise()
        return self._report

    def follow(self, *deeds):
        """Does deeds one after another and returns their reports."""
        return [self.do(deed) for deed in deeds]

    def _make(self, deed):
        text = deed[1]
        if not isinstance(text, str) or text == PLAIN or not is_shape(text):
            raise BadDeed(deed)
        self._engine.begin_deed()
        return ("made", self._caller.made(Shape(text)).hand)

    def _put(self, deed):
        _, hand, at, put = deed
        box = self._caller.list_of(hand)
        if box is None or type(at) is not int or not 0 <= at < len(box.cells):
            raise BadDeed(deed)
        kind = Shape(box.shape)[at].text
        if not fits(self._caller, kind, put):
            raise BadDeed(deed)
        self._engine.begin_deed()
        box.cells[at] = given(self._caller, kind, put)
        return ("put",)

    def _call(self, deed):
        _, method, arguments = deed
        if method not in self.kept.methods or not self._are_arguments(method, arguments):
            raise BadDeed(deed)
        if self.is_busy:
            raise Busy()
        mark, kinds, _ = self.kept.face(method)
        if not allows(mark, self._opened):
            raise Shut(method)
        self._engine.begin_deed()
        self._called = method
        self._indexes = tuple([part for kind, part in zip(kinds, arguments) if isinstance(kind, int)])
        self._asks_done = 0
        self._begun += 1
        values = [self._passed(at, kinds[at], part) for at, part in enumerate(arguments)]
        self._engine.call(self.kept.definitions_of(method), values)
        return self._call_report()

    def _are_arguments(self, method, arguments):
        kinds = self.kept.face(method)[1]
        if not isinstance(arguments, tuple) or len(arguments) != len(kinds):
            return False
        return all([fits(self._caller, kind, part) for kind, part in zip(kinds, arguments)])

    def _passed(self, at, kind, argument):
        """What the engine gets for the parameter with the index at."""
        if isinstance(kind, int):
            return argument
        return given(self._caller, kind, argument) if isinstance(kind, str) else (at, 0, 0)

    def _reply(self, deed):
        hand = deed[1]
        if hand is not None and (type(hand) is not int or hand < 0):
            raise BadDeed(deed)
        if not self.is_busy:
            raise NotAsked()
        kind = self.kept.face(self._called)[1][self._engine.asked[0]][1]
        if not fits(self._caller, kind, hand):
            raise BadDeed(deed)
        self._engine.begin_deed()
        self._asks_done += 1
        self._engine.answer(given(self._caller, kind, hand))
        return self._call_report()

    def _raise(self):
        if not self.is_busy:
            raise NotAsked()
        self._engine.begin_deed()
        self._engine.give_up()
        self._end_call(self._asks_done)
        return ("raised",)

    def _call_report(self):
        if self.is_busy:
            return ("asks", self._engine.asked[0], self._engine.told)
        self._end_call(RETURNED)
        return ("returns", self._engine.told)

    def _end_call(self, ending):
        mark = self.kept.face(self._called)[0]
        self._opened = open_behind(mark, self._opened, ending == RETURNED)
        self._ended.append((self._called, self._indexes, ending))

    def hands(self):
        """What the caller has: a tuple (kind, shape, items) for each hand."""
        return tuple([(kind, box.shape, tuple([shown_cell(cell) for cell in box.cells]))
                      for kind, box in self._caller.grips])

    def account(self):
        """The last report and the hands."""
        return (self._report, self.hands())

    def insides(self):
        """The values of the fields, lists as new lists."""
        return {name: shown_value(value) for name, value in self._engine.fields.items()}

    def same(self, one, other):
        """Whether one list stands at two places."""
        return self._list_at(one) == self._list_at(other)

    def hand_at(self, place):
        """The hand of the list at a place, or None if it is not held."""
        return self._list_at(place).hand

    def is_seen(self, place):
        """Whether the caller holds the list at a place or a view of it."""
        box = self._list_at(place)
        return box.hand is not None or box.is_shown

    def _list_at(self, place):
        self.kept.shape_at(place)
        name, *marks = place.split("[")
        value = self._engine.fields[name]
        for mark in marks:
            value = value.cells[int(mark[:-1])]
        return value

    def labels(self):
        """The labels of the calls that are over."""
        return list(self._ended)

    def world(self):
        """The form of the world, if the object is not busy."""
        if self.is_busy:
            raise Busy()
        return (self._opened, codes_of(self._engine.fields))

    def inside_values(self):
        """The values of the fields themselves, lists as boxes."""
        return dict(self._engine.fields)

    def viewed_boxes(self):
        """The boxes that the views of the caller show, in the order of the hands."""
        return [box for kind, box in self._caller.grips if kind == "view"]

    @property
    def is_busy(self):
        """Whether a call waits for a reply."""
        return self._engine.asked is not None

    @property
    def is_open(self):
        """Whether the object is open."""
        return self._opened

    @property
    def calls(self):
        """How many calls were begun."""
        return self._begun

    @property
    def is_outside(self):
        """Whether the last deed did a row that set an item of a list that the caller held."""
        return self._engine.went_outside
