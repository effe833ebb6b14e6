"""Worlds: labels, steps, tables and plain histories (DOC.md, points 21 to 23)."""

from handedcopies.boxes import HIDDEN, SHOWN
from handedcopies.errors import BadLabel, BadWorld, Shut
from handedcopies.forms import has_form_kinds, is_form, read_codes
from handedcopies.goals import Looker, check_goal
from handedcopies.labels import RETURNED, allows, calls_of, is_label
from handedcopies.running import Run
from handedcopies.steps import Walker
from handedcopies.tours import Tour

MOST_WORLDS = 400


def first_world(kept):
    """The world of a new run."""
    return Run(kept).world()


def labels_of(kept):
    """All labels of a kept, ascending."""
    for method, indexes in calls_of(kept):
        for ending in range(RETURNED, kept.asks(method)):
            yield (method, indexes, ending)


def checked_step(kept, form, label):
    """The Step of a world by a label."""
    if not is_form(kept, form):
        raise BadWorld(form)
    if not is_label(kept, label):
        raise BadLabel(label)
    if not allows(kept.face(label[0])[0], form[0]):
        raise Shut(label[0])
    return Walker(kept).step_by(form, label)


def step(kept, form, label):
    """The world behind a call with a label."""
    return checked_step(kept, form, label).after


def meets(kept, form, label, goal, *, when="rest"):
    """Whether a call with a label meets a goal, at its end, at its asks or by its rows."""
    done = checked_step(kept, form, label)
    check_goal(kept, goal, when)
    return goal in Looker(kept, when).goals_of(done)


class World:
    """A world by form, looked at place by place."""

    def __init__(self, kept, form):
        if not is_form(kept, form):
            raise BadWorld(form)
        self.form = form
        self._kept = kept
        self._reader = read_codes(kept, form[1])

    @property
    def is_open(self):
        """Whether the object is open."""
        return self.form[0]

    def state(self, place):
        """Whether the list at a place is "held", "seen" or "shut"."""
        self._kept.shape_at(place)
        return self._reader.states[place]

    def same(self, one, other):
        """Whether the form shows that one list stands at two places."""
        self._kept.shape_at(one)
        self._kept.shape_at(other)
        return self._reader.leads[one] == self._reader.leads[other]

    def __eq__(self, other):
        return isinstance(other, World) and self.form == other.form

    def __len__(self):
        return len([code for code in self.form[1] if code in (SHOWN, HIDDEN)])


class Table:
    """The worlds that any history of a kept leads to."""

    def __init__(self, kept, *, most=MOST_WORLDS):
        self.kept = kept
        self._tour = Tour(Walker(kept), first_world(kept), most)
        self._forms = self._tour.forms

    def tour(self):
        """The tour of the worlds, with the steps between them."""
        return self._tour

    def depth_of(self, form):
        """The number of calls of the histories with the fewest calls that lead to a world."""
        if form not in self:
            raise BadWorld(form)
        return self._tour.depths[form]

    def follow(self, *labels):
        """The world behind calls with these labels in a new run."""
        form = first_world(self.kept)
        for label in labels:
            form = step(self.kept, form, label)
        return form

    def __len__(self):
        return len(self._forms)

    def __getitem__(self, at):
        return self._forms[at]

    def __iter__(self):
        return iter(self._forms)

    def __contains__(self, form):
        # True and 1 are different here, although they are equal in Python.
        return has_form_kinds(form) and form in self._tour.depths


class Player:
    """Does plain deeds in a new run and keeps them."""

    def __init__(self, kept):
        self.deeds = []
        self._run = Run(kept)
        self._kept = kept

    def _play(self, deed):
        report = self._run.do(deed)
        self.deeds.append(deed)
        return report

    def _hand_for(self, kind):
        """The hand of a new list for a parameter or a reply of this kind, or None if it takes no list."""
        if not isinstance(kind, str) or kind == ".":
            return None
        return self._play(("make", kind))[1]

    def play_call(self, label):
        """Does the deeds of a call with a label that the marks allow."""
        method, indexes, ending = label
        kinds = self._kept.face(method)[1]
        rest = list(indexes)
        arguments = [rest.pop(0) if isinstance(kind, int) else self._hand_for(kind) for kind in kinds]
        report = self._play(("call", method, tuple(arguments)))
        for _ in range(self._kept.asks(method) if ending == RETURNED else ending):
            hand = self._hand_for(kinds[report[1]][1])
            report = self._play(("reply", hand))
        if ending != RETURNED:
            self._play(("raise",))


def plain_deeds(kept, *labels):
    """The deeds of calls with these labels, in which the caller passes and replies new lists only."""
    player = Player(kept)
    for label in labels:
        if not is_label(kept, label):
            raise BadLabel(label)
        player.play_call(label)
    return tuple(player.deeds)
