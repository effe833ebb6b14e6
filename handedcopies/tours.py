"""All worlds that calls lead to from a first one (DOC.md, point 23)."""

from handedcopies.errors import TooMany


class Tour:
    """The worlds that any calls lead to, by ascending depth, those of one depth ascending, with their steps.

    walker is an object with a method steps_from(form), which gives the steps of a world.
    """

    def __init__(self, walker, first, most):
        self.forms = []
        self.depths = {first: 0}
        self._walker = walker
        self._most = most
        self._ways = {}
        self._steps = {}
        layer = [first]
        while layer:
            layer = sorted(layer)
            self.forms.extend(layer)
            layer = self._next_layer(layer)

    def _next_layer(self, layer):
        """The worlds that are met first behind the worlds of a layer."""
        found = []
        for form in layer:
            self._steps[form] = self._walker.steps_from(form)
            for done in self._steps[form]:
                if done.after not in self.depths:
                    self.depths[done.after] = self.depths[form] + 1
                    self._ways[done.after] = (form, done.label)
                    found.append(done.after)
            if len(self.depths) > self._most:
                raise TooMany("worlds")
        return found

    def steps_from(self, form):
        """The steps of a world by all labels that the marks allow."""
        return list(self._steps[form])

    def labels_to(self, form):
        """The labels of a history with the fewest calls that leads to a world."""
        found = []
        while form in self._ways:
            form, label = self._ways[form]
            found.append(label)
        return found[::-1]
