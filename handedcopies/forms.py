"""Forms of worlds: which tuples are worlds by form, and the lists that a form tells of (DOC.md, points 21 and 26)."""

from handedcopies.boxes import BLANK, HELD, HIDDEN, SHOWN, Box, blank_of
from handedcopies.kepts import lists_below
from handedcopies.shapes import Shape


class FormReader:
    """Goes through codes as point 21 does.

    states tells of each place "held", "seen" or "shut"; leads tells where the list of the place was first met, which
    is the place itself if nothing else is known.
    """

    def __init__(self, codes):
        self.states = {}
        self.leads = {}
        self._codes = codes
        self._at = 0
        self._firsts = []

    def take_all(self, kept):
        """Goes through all fields of a kept and tells whether the codes are right for them."""
        for name, text in kept.fields:
            if not self._take(name, Shape(text), False):
                return False
        return self._at == len(self._codes)

    def _take(self, place, shape, is_below_shown):
        if shape.depth == 0:
            return True
        if self._at == len(self._codes):
            return False
        code = self._codes[self._at]
        self._at += 1
        if code == HELD:
            return self._pass_over(place, shape)
        if is_below_shown:
            return False
        if code in (SHOWN, HIDDEN):
            return self._meet(place, shape, code == SHOWN)
        return self._meet_again(place, shape, code)

    def _pass_over(self, place, shape):
        for below, _ in lists_below(place, shape):
            self.states[below] = "held"
            self.leads[below] = below
        return True

    def _meet(self, place, shape, is_shown):
        self.states[place] = "seen" if is_shown else "shut"
        self.leads[place] = place
        self._firsts.append((place, shape.text))
        for at, item in enumerate(shape):
            # Behind a wrong item nothing is taken: what names its list again would find nothing of it.
            if not self._take(f"{place}[{at}]", item, is_shown):
                return False
        return True

    def _meet_again(self, place, shape, code):
        if not 0 <= code < len(self._firsts):
            return False
        first, text = self._firsts[code]
        if text != shape.text:
            return False
        for below, _ in lists_below(place, shape):
            # A list that was met before has all its items behind it: its own shape is deeper than theirs.
            lead = first + below.removeprefix(place)
            self.states[below] = self.states[lead]
            self.leads[below] = self.leads[lead]
        return True


def is_form(kept, form):
    """Whether a value, of any kind, is a world by form."""
    return has_form_kinds(form) and FormReader(form[1]).take_all(kept)


def has_form_kinds(form):
    """Whether a value, of any kind, is a tuple of a boolean and a tuple of integers."""
    if not isinstance(form, tuple) or len(form) != 2:
        return False
    if not isinstance(form[0], bool) or not isinstance(form[1], tuple):
        return False
    return all([type(code) is int for code in form[1]])


def read_codes(kept, codes):
    """A reader that has gone through the codes of a world by form."""
    reader = FormReader(codes)
    reader.take_all(kept)
    return reader


class FormBuilder:
    """Makes lists as the codes of a form tell; what is held comes to a caller's hands."""

    def __init__(self, codes, caller):
        self._codes = codes
        self._caller = caller
        self._at = 0
        self._met = []

    def built(self, shape):
        """The next value, which has this Shape."""
        if shape.depth == 0:
            return BLANK
        code = self._codes[self._at]
        self._at += 1
        if code == HELD:
            return self._held(shape)
        if code >= 0:
            return self._met[code]
        box = Box(shape.text, [])
        box.is_shown = code == SHOWN
        self._met.append(box)
        box.cells = [self.built(item) for item in shape]
        return box

    def _held(self, shape):
        box = blank_of(shape)
        self._caller.hold(box)
        return box
