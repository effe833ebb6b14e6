"""The caller of a run: what it holds, and the new values that it uses (DOC.md, points 15 to 17)."""

from handedcopies.boxes import Box


class Caller:
    """The hands of a caller, as (kind, box) by number, and the last new value that it used."""

    def __init__(self):
        self.grips = []
        self.last_value = 0

    def new_value(self):
        """The next new value."""
        self.last_value += 1
        return self.last_value

    def made(self, shape):
        """A list of a Shape with new values, which the caller holds, or for a plain one a new value."""
        value = self._filled(shape)
        self.hold(value)
        return value

    def _filled(self, shape):
        if shape.depth == 0:
            return self.new_value()
        return Box(shape.text, [self._filled(item) for item in shape])

    def hold(self, value):
        """Gives a list that comes to be held its hand, and then all that is below it."""
        if not isinstance(value, Box) or value.hand is not None:
            return
        value.hand = len(self.grips)
        self.grips.append(("list", value))
        for cell in value.cells:
            self.hold(cell)

    def look_at(self, box):
        """Gives the caller a new view of a list, and then its items; the hand of the view."""
        hand = len(self.grips)
        self.grips.append(("view", box))
        box.is_shown = True
        for cell in box.cells:
            self.hold(cell)
        return hand

    def start_anew(self):
        """Forgets all hands, as a trial does at each turn; their lists stay held."""
        self.grips = []

    def list_of(self, hand):
        """The list of a hand, or None if a value, of any kind, is not the hand of a list."""
        if type(hand) is not int or not 0 <= hand < len(self.grips):
            return None
        kind, box = self.grips[hand]
        return box if kind == "list" else None
