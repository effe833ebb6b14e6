"""The two sides of a trial: the kepts, and the objects with their own lists (DOC.md, point 35)."""

from handedcopies.boxes import Box, shown_cell
from handedcopies.callers import Caller
from handedcopies.engines import Engine
from handedcopies.jointforms import FIRST
from handedcopies.labels import calls_of
from handedcopies.shapes import Shape


class Couple:
    """Two kepts with one face, and what their trials need to know of them."""

    def __init__(self, one, other):
        self.kepts = (one, other)
        self.all_calls = calls_of(one)
        self._item_texts = {}

    def mark_of(self, method):
        """The mark of a method."""
        return self.kepts[FIRST].face(method)[0]

    def kinds_of(self, method):
        """The kinds of the parameters of a method."""
        return self.kepts[FIRST].face(method)[1]

    def most_asks(self, method):
        """How many asks a call has, of the kept that has more."""
        return max([kept.asks(method) for kept in self.kepts])

    def item_texts(self, text):
        """The texts of the shapes of the items of a list."""
        if text not in self._item_texts:
            self._item_texts[text] = tuple([item.text for item in Shape(text)])
        return self._item_texts[text]


class Side:
    """One of the two objects: its engine, and its boxes of the lists that the caller held at the turn, by number.

    picker is an object with a method item_at(number, at), which tells the number of what the caller has put there.
    """

    def __init__(self, picker):
        self.caller = Caller()
        self.engine = Engine({}, self.caller)
        self.boxes = {}
        self._picker = picker

    def take_up(self, number, box):
        """Notes that the caller holds a list at the turn, with this number."""
        box.hand = number
        box.source = self
        self.boxes[number] = box

    def begin_turn(self):
        """Leaves the items of all lists that the caller holds to the caller."""
        self.caller.start_anew()
        for box in self.boxes.values():
            box.cells = [None] * len(box.cells)

    def value_of(self, number):
        """The value of this side with a number of the trial."""
        return number if number >= 0 else self.boxes[number]

    def told_item(self, box, at):
        """The item that the caller has put into a list."""
        return self.value_of(self._picker.item_at(box.hand, at))

    def passed(self, kinds, given):
        """What the engine gets for parameters of these kinds."""
        found = []
        for at, kind in enumerate(kinds):
            if isinstance(kind, str):
                found.append(self.value_of(given[at]))
            else:
                found.append(given[at] if isinstance(kind, int) else (at, 0, 0))
        return found

    def asked_at(self):
        """The index of the function that waits for its reply, None if there is none."""
        return None if self.engine.asked is None else self.engine.asked[0]

    def new_grips(self):
        """What has come to be held since the turn, and the views, as (kind, box)."""
        return list(self.caller.grips)

    def account(self):
        """What is told of the last deed: its ask, its value, and what has come to be held, with the items."""
        held = [(kind, box.shape, shown_items(box) if kind == "list" else None) for kind, box in self.caller.grips]
        return (self.asked_at(), self.engine.told, held)


def shown_items(box):
    """What the caller is told of the items of a list that it did not hold at the turn."""
    return [shown_cell(cell) for cell in box.cells]


def show_alike(one, other):
    """Whether two lists have equal items, which the same views show; if they are held, they are one list."""
    return one.hand is not None or shown_items(one) == shown_items(other)


def new_box(couple, text):
    """A list of this shape, without its items."""
    return Box(text, [None] * len(couple.item_texts(text)))
