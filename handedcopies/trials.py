"""Trials: one call of two objects from a joint world, with what the caller chooses (DOC.md, point 35).

The lists that the caller held at the last turn have numbers below 0 here, the same on both sides, and plain values have
numbers from 0 on. The lists that come to be held behind the turn have hands from 0 on; at the next turn they get such
numbers, too.
"""

from handedcopies.boxes import shown_cell
from handedcopies.jointforms import FIRST, NOWHERE, SECOND, could_part, joint_form
from handedcopies.sides import Side, new_box, show_alike
from handedcopies.turns import Turn

PLAIN = "."


class Start:
    """Sets up the two sides of a trial as a joint world tells, which a reader has read.

    numbers has those of the held lists, by their numbers in the joint world.
    """

    def __init__(self, couple, reader, sides, numbers):
        self._couple = couple
        self._reader = reader
        self._sides = sides
        self._numbers = numbers
        self._boxes = {}

    def set_up(self):
        """Makes all lists that are not held, and the fields."""
        for at, met in enumerate(self._reader.met_lists):
            if not met.is_held:
                self._boxes[at] = new_box(self._couple, met.shape)
        for at, box in self._boxes.items():
            met = self._reader.met_lists[at]
            box.cells = self._cells(met, met.side)
        for side, kept in enumerate(self._couple.kepts):
            fields = self._sides[side].engine.fields
            for (name, text), number in zip(kept.fields, self._reader.fields[side]):
                fields[name] = self._value(text, number, side)

    def views(self):
        """The pairs of lists that the views show."""
        return [(self._viewed(FIRST, one, other), self._viewed(SECOND, other, one))
                for one, other in self._reader.windows]

    def _cells(self, met, side):
        """The items of a list, on the side where it stands, or on the other one for a list with the same items."""
        return [self._value(text, number, side)
                for text, number in zip(self._couple.item_texts(met.shape), met.numbers)]

    def _value(self, text, number, side):
        if text == PLAIN:
            return number
        if number in self._boxes:
            return self._boxes[number]
        return self._sides[side].boxes[self._numbers[number]]

    def _viewed(self, side, number, opposite):
        """The list that a view shows on a side; one that is nowhere inside has the items of its opposite."""
        if number == NOWHERE:
            met = self._reader.met_lists[opposite]
            box = new_box(self._couple, met.shape)
            box.cells = self._cells(met, side)
        else:
            box = self._boxes[number]
        box.is_shown = True
        return box


class Trial:
    """A trial of two kepts from the joint world that a reader has read.

    turns has its turns; looks has the codes of both sides and the windows for each of its asks and its end, or None
    where the trial before had the same ones; is_parted tells whether it parts the kepts behind its last turn.
    """

    def __init__(self, couple, reader, choices):
        self.turns = []
        self.looks = []
        self.is_parted = False
        self._couple = couple
        self._choices = choices
        self._shapes = {}
        self._last_plain = reader.plains
        self._sides = (Side(self), Side(self))
        self._views = []
        self._set_up(reader)

    def _set_up(self, reader):
        """Makes the two objects that the joint world tells of."""
        numbers = {}
        for at, met in enumerate(reader.met_lists):
            if met.is_held:
                numbers[at] = self._held_number(met.shape)
        start = Start(self._couple, reader, self._sides, numbers)
        start.set_up()
        self._views = start.views()

    def play(self, method, indexes):
        """Does the call, up to its end or to where it parts the kepts."""
        kinds = self._couple.kinds_of(method)
        given = self._begin_turn().given
        rest = list(indexes)
        for kind in kinds:
            if isinstance(kind, int):
                given.append(rest.pop(0))
            else:
                given.append(self._chosen(kind) if isinstance(kind, str) else None)
        for side, kept in zip(self._sides, self._couple.kepts):
            side.engine.call(kept.definitions_of(method), side.passed(kinds, given))
        while self._goes_on():
            self._reply(kinds[self._sides[FIRST].asked_at()][1])

    def _reply(self, text):
        """The turn at an ask, with a reply of this shape, or with none."""
        given = self._begin_turn().given
        given.append(None if text is None else self._chosen(text))
        for side in self._sides:
            side.engine.answer(None if text is None else side.value_of(given[0]))

    def shape_of(self, number):
        """The text of the shape of a list that the caller held at a turn."""
        return self._shapes[number]

    def item_at(self, number, at):
        """The number of the item that the caller has put into a list that it held at the turn."""
        picked = self.turns[-1].picked
        if (number, at) not in picked:
            picked[(number, at)] = self._chosen(self._couple.item_texts(self._shapes[number])[at])
        return picked[(number, at)]

    def _chosen(self, text):
        """The number of a value of this shape that the caller chooses."""
        if text == PLAIN:
            self._last_plain += 1
            return self._last_plain
        known = [number for number, shape in self._shapes.items() if shape == text]
        at = self._choices.pick(1 + len(known))
        if at > 0:
            return known[at - 1]
        number = self._held_number(text)
        self.turns[-1].new_lists.append(number)
        return number

    def _next_number(self, text):
        number = -1 - len(self._shapes)
        self._shapes[number] = text
        return number

    def _held_number(self, text):
        """The number of a list of this shape that the caller held at the turn; it is new here."""
        number = self._next_number(text)
        for side in self._sides:
            side.take_up(number, new_box(self._couple, text))
        return number

    def _begin_turn(self):
        """The next turn; what has come to be held is left to the caller."""
        one, other = [side.new_grips() for side in self._sides]
        for at, (kind, box) in enumerate(one):
            if kind == "list":
                number = self._next_number(box.shape)
                self._sides[FIRST].take_up(number, box)
                self._sides[SECOND].take_up(number, other[at][1])
                self.turns[-1].grasped.append((at, number))
        for side in self._sides:
            side.begin_turn()
        self.turns.append(Turn())
        return self.turns[-1]

    def _goes_on(self):
        """Looks at what is told behind a turn, and tells whether the call waits for a reply."""
        self._note_unread()
        if not self._agree():
            self.is_parted = True
            return False
        look = None
        if self._choices.are_new():
            look = joint_form(False, [side.engine.fields for side in self._sides], self._views)[1:]
        self.looks.append(look)
        return self._sides[FIRST].asked_at() is not None

    def _note_unread(self):
        for side in self._sides:
            for number, box in side.boxes.items():
                for at, cell in enumerate(box.cells):
                    if cell is not None:
                        self.turns[-1].note_unread(number, at)

    def _agree(self):
        """Whether both sides have equal accounts, and no put could part them."""
        one, other = self._sides
        if one.account() != other.account():
            return False
        for (kind, box), (_, other_box) in zip(one.new_grips(), other.new_grips()):
            if kind == "view":
                self._views.append((box, other_box))
        if could_part(self._views) or not all([show_alike(box, other_box) for box, other_box in self._views]):
            return False
        return all([self._has_equal_items(number) for number in self._shapes])

    def _has_equal_items(self, number):
        """Whether a list that the caller held at the turn has equal items on both sides."""
        cells, other_cells = [side.boxes[number].cells for side in self._sides]
        for at, (cell, other_cell) in enumerate(zip(cells, other_cells)):
            if self._shown(number, at, cell) != self._shown(number, at, other_cell):
                return False
        return True

    def _shown(self, number, at, cell):
        """What stands in a list that was held at the turn; None for a new list or value that no row needed.

        What no side has set is the same on both, whatever the caller has put there.
        """
        return self.turns[-1].picked.get((number, at)) if cell is None else shown_cell(cell)
