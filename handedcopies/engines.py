"""The engine of a run: does the rows of a call, from ask to ask (DOC.md, points 14, 16 and 18).

A function of the caller's is a tuple here: the index of its parameter in the method that the caller called, and how
many floors of its argument and of its reply are copied.
"""

from handedcopies.boxes import blank_of, copied, shown_cell
from handedcopies.rows import Ask, Copy, New, SuperCall, Wrap, lone_word, uncopied
from handedcopies.shapes import MOST_DEPTH


class Frame:
    """A definition under way: its words, the indexes and functions passed to it, and the row where it is."""

    def __init__(self, definition, arguments):
        self.rows = definition.rows
        self.at = 0
        self.words = {}
        self.indexes = {}
        self.functions = {}
        for (word, kind), argument in zip(definition.parameters, arguments):
            if isinstance(kind, str):
                self.words[word] = argument
            elif isinstance(kind, int):
                self.indexes[word] = argument
            else:
                self.functions[word] = argument


def copied_as(term, value):
    """A value copied as a row's copy says."""
    return copied(value, MOST_DEPTH if term.floor_count is None else term.floor_count)


def index_at(frame, step):
    """The integer that stands, or is meant by a word, in the brackets of a path."""
    return step if isinstance(step, int) else frame.indexes[step]


class Engine:
    """An object, as a dict of fields, with its caller and the call under way.

    asked is the function that waits for its reply, or None; told is what the caller was last told: a hand, a plain
    value or None. went_outside tells whether a row has set an item of a held list since the last deed was begun.
    """

    def __init__(self, fields, caller):
        self.fields = fields
        self.caller = caller
        self.asked = None
        self.told = None
        self.went_outside = False
        self._definitions = []
        self._frames = []

    def begin_deed(self):
        """Notes that a deed begins and that no row of it was done."""
        self.went_outside = False

    def call(self, definitions, arguments):
        """Begins a call and does it up to its first ask or its end."""
        self._definitions = definitions
        self._frames = [Frame(definitions[0], arguments)]
        self._go_on()

    def answer(self, value):
        """Takes the reply to the ask and goes on up to the next one or the end of the call."""
        back_floors = self.asked[2]
        self.asked = None
        self._finish_row(copied(value, back_floors))
        self._go_on()

    def give_up(self):
        """Ends the call at its ask."""
        self.asked = None
        self._frames = []

    def _go_on(self):
        while self._frames and self.asked is None:
            frame = self._frames[-1]
            if frame.at < len(frame.rows):
                self._begin_row(frame)
            else:
                self._leave(None, "return")

    def _begin_row(self, frame):
        part = uncopied(frame.rows[frame.at])
        if isinstance(part, Ask):
            self._ask(frame.functions[part.word], self._simple(frame, part.simple))
        elif isinstance(part, SuperCall):
            arguments = [self._argument(frame, argument) for argument in part.arguments]
            self._frames.append(Frame(self._definitions[len(self._frames)], arguments))
        else:
            self._finish_row(self._simple(frame, part))

    def _ask(self, function, value):
        self.asked = function
        self._hand_over(copied(value, function[1]))

    def _hand_over(self, value):
        self.caller.hold(value)
        self.told = shown_cell(value)

    def _finish_row(self, value):
        frame = self._frames[-1]
        row = frame.rows[frame.at]
        frame.at += 1
        if isinstance(row.term, Copy):
            value = copied_as(row.term, value)
        if row.way == "set":
            self._set(frame, row.path, value)
        elif row.way != "call":
            self._leave(value, row.way)

    def _leave(self, value, way):
        self._frames.pop()
        if self._frames:
            self._finish_row(value)
        elif way == "view":
            self.told = self.caller.look_at(value)
        else:
            self._hand_over(value)

    def _set(self, frame, path, value):
        if path.steps:
            box = self._value_at(frame, path, path.steps[:-1])
            self._set_item(box, index_at(frame, path.steps[-1]), value)
        elif path.of_self:
            self.fields[path.word] = value
        else:
            frame.words[path.word] = value

    def _set_item(self, box, at, value):
        if box.hand is not None:
            self.went_outside = True
        box.cells[at] = value
        # The caller may watch this list, so what stands in it is reached at once.
        if box.hand is not None or box.is_shown:
            self.caller.hold(value)

    def _value_at(self, frame, path, steps):
        value = self.fields[path.word] if path.of_self else frame.words[path.word]
        for step in steps:
            value = value.item(index_at(frame, step))
        return value

    def _simple(self, frame, part):
        if isinstance(part, New):
            return blank_of(part.shape)
        if isinstance(part, Copy):
            return copied_as(part, self._value_at(frame, part.inner, part.inner.steps))
        return self._value_at(frame, part, part.steps)

    def _argument(self, frame, argument):
        if isinstance(argument, int):
            return argument
        if isinstance(argument, Wrap):
            at, out_floors, back_floors = frame.functions[argument.word]
            return (at, max(out_floors, argument.out_floors), max(back_floors, argument.back_floors))
        word = lone_word(argument)
        if word in frame.indexes:
            return frame.indexes[word]
        return frame.functions[word] if word in frame.functions else self._simple(frame, argument)
