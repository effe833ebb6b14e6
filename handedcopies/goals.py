"""Goals: when a run, a world or a step meets them (DOC.md, point 24)."""

from handedcopies.errors import BadGoal, BadWhen
from handedcopies.forms import read_codes

WHENS = ("rest", "closed", "ever")
OUTSIDE = "outside"
SEEN = "seen "


def check_goal(kept, goal, when):
    """Raises BadGoal or BadWhen if one of two values, of any kind, is none."""
    if goal not in kept.goals():
        raise BadGoal(goal)
    if when not in WHENS:
        raise BadWhen(when)


def is_met_by_run(run, goal, when):
    """Whether a goal is met behind the last deed of a run."""
    if goal == OUTSIDE:
        return run.is_outside
    if (run.is_busy and when != "ever") or (run.is_open and when == "closed"):
        return False
    if goal.startswith(SEEN):
        return run.is_seen(goal.removeprefix(SEEN))
    return run.hand_at(goal) is not None


class Looker:
    """Tells which goals are met in the worlds of a kept and by their steps, for one when."""

    def __init__(self, kept, when):
        self._kept = kept
        self._when = when
        self._known = {}

    def goals_in(self, form):
        """The goals that are met in a world."""
        if form[0] and self._when == "closed":
            return []
        return self._goals_at(form[1])

    def goals_of(self, step):
        """The goals that are met by a step, some perhaps several times."""
        found = self.goals_in(step.after)
        if self._when == "ever":
            for codes in step.looks:
                found = found + self._goals_at(codes)
        return found + [OUTSIDE] if step.goes_outside else found

    def _goals_at(self, codes):
        """The goals that places meet, whenever they are looked at; kept for the next look."""
        if codes not in self._known:
            found = []
            for place, state in read_codes(self._kept, codes).states.items():
                if state == "held":
                    found.append(place)
                if state != "shut":
                    found.append(f"{SEEN}{place}")
            self._known[codes] = found
        return self._known[codes]
