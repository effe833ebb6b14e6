"""Checks papers for goals (DOC.md, point 25)."""

from handedcopies.errors import BadDeed, Busy, NotAsked, Shut
from handedcopies.forms import is_form
from handedcopies.goals import Looker, check_goal, is_met_by_run
from handedcopies.running import Run
from handedcopies.steps import Walker
from handedcopies.worlds import first_world


def can_do(run, deed):
    """Whether a run can do a deed, any value; if so, it is done."""
    try:
        run.do(deed)
    except (BadDeed, Busy, NotAsked, Shut):
        return False
    return True


def is_history(kept, goal, deeds, when):
    """Whether a value, of any kind, is a history that meets a goal behind its last deed."""
    if not isinstance(deeds, tuple) or len(deeds) == 0:
        return False
    run = Run(kept)
    for deed in deeds:
        if not can_do(run, deed):
            return False
    return is_met_by_run(run, goal, when)


def has_common(goals, found):
    """Whether one of some goals is among those that were found."""
    return any([goal in found for goal in goals])


def are_closed(kept, goals, forms, when):
    """Whether a value, of any kind, is a tuple of worlds that no call leaves and that never meet one of some goals."""
    if not isinstance(forms, tuple) or not all([is_form(kept, form) for form in forms]):
        return False
    among = {form: True for form in forms}
    walker = Walker(kept)
    looker = Looker(kept, when)
    if first_world(kept) not in among:
        return False
    for form in among:
        if has_common(goals, looker.goals_in(form)):
            return False
        for done in walker.steps_from(form):
            if done.after not in among or has_common(goals, looker.goals_of(done)):
                return False
    return True


def is_paper(kept, goal, thing, *, when="rest"):
    """Whether a value, of any kind, is a paper for a goal."""
    check_goal(kept, goal, when)
    if not isinstance(thing, tuple) or len(thing) != 2:
        return False
    if thing[0] == "reached":
        return is_history(kept, goal, thing[1], when)
    return thing[0] == "never" and are_closed(kept, [goal], thing[1], when)
