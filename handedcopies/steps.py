"""Calls from worlds: what every call with a label leads to (DOC.md, point 22).

What a caller passes, changes or replies makes no difference, so the calls here pass and reply new lists only.
"""

from handedcopies.boxes import codes_of
from handedcopies.callers import Caller
from handedcopies.engines import Engine
from handedcopies.forms import FormBuilder
from handedcopies.labels import RETURNED, allows, index_rows, open_behind
from handedcopies.shapes import Shape


class Step:
    """A call with a label from a world.

    looks has the codes behind its asks, with the last one if it is raised there; after is the form behind its end;
    goes_outside tells whether one of its rows sets an item of a held list.
    """

    def __init__(self, label, looks, after, goes_outside):
        self.label = label
        self.looks = looks
        self.after = after
        self.goes_outside = goes_outside


def kind_shape(kind):
    """What a call needs to know of a parameter: a Shape, an integer, or a function's reply as a Shape or None."""
    if isinstance(kind, tuple):
        return None if kind[1] is None else Shape(kind[1])
    return kind if isinstance(kind, int) else Shape(kind)


class Walker:
    """Does the calls of a kept from any of its worlds by form."""

    def __init__(self, kept):
        self._fields = [(name, Shape(text)) for name, text in kept.fields]
        self._faces = {method: kept.face(method) for method in kept.methods}
        self._definitions = {method: kept.definitions_of(method) for method in kept.methods}
        self._shapes = {}
        for method in kept.methods:
            self._shapes[method] = [kind_shape(kind) for kind in kept.face(method)[1]]

    def steps_from(self, form):
        """The steps of a world by all labels that the marks allow, ascending by label."""
        found = []
        for method in self._faces:
            found.extend(self.steps_by(form, method))
        return found

    def steps_by(self, form, method):
        """The steps of a world by the labels of a method, ascending, none if its mark forbids it."""
        found = []
        mark, kinds, _ = self._faces[method]
        if allows(mark, form[0]):
            for indexes in index_rows(kinds):
                found.extend(self._steps_of(form, method, indexes, mark))
        return found

    def step_by(self, form, label):
        """The step of a world by a label of the kept that the marks allow."""
        method, indexes, ending = label
        # The returned step comes first, then one for each ask.
        return self._steps_of(form, method, indexes, self._faces[method][0])[ending + 1]

    def _steps_of(self, form, method, indexes, mark):
        """The step of a call that returns, and then those of the calls that are raised, by their asks."""
        passage = self._passage(form, method, indexes)
        looks = [codes for codes, _ in passage[:-1]]
        codes, goes_outside = passage[-1]
        after = (open_behind(mark, form[0], True), codes)
        found = [Step((method, indexes, RETURNED), looks, after, goes_outside)]
        for ask, (codes, goes_outside) in enumerate(passage[:-1]):
            after = (open_behind(mark, form[0], False), codes)
            found.append(Step((method, indexes, ask), looks[:ask + 1], after, goes_outside))
        return found

    def _passage(self, form, method, indexes):
        """For each ask of a call and for its end: the codes, and whether a row has set an item of a held list."""
        caller = Caller()
        builder = FormBuilder(form[1], caller)
        engine = Engine({name: builder.built(shape) for name, shape in self._fields}, caller)
        found = []
        engine.call(self._definitions[method], self._arguments(caller, method, indexes))
        while engine.asked is not None:
            found.append((codes_of(engine.fields), engine.went_outside))
            reply = self._shapes[method][engine.asked[0]]
            engine.answer(None if reply is None else caller.made(reply))
        found.append((codes_of(engine.fields), engine.went_outside))
        return found

    def _arguments(self, caller, method, indexes):
        arguments = []
        rest = list(indexes)
        for at, kind in enumerate(self._faces[method][1]):
            if isinstance(kind, int):
                arguments.append(rest.pop(0))
            elif isinstance(kind, str):
                arguments.append(caller.made(self._shapes[method][at]))
            else:
                arguments.append((at, 0, 0))
        return arguments
