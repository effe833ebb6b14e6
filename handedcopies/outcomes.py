"""What all trials of a call lead to (DOC.md, points 35 and 36)."""

from handedcopies.jointforms import read_joint
from handedcopies.labels import RETURNED, allows, open_behind
from handedcopies.trials import Trial
from handedcopies.turns import Choices


class Outcome:
    """What the trials of a label lead to: choices of one that parts the kepts, or None, and choices by joint world."""

    def __init__(self, label):
        self.label = label
        self.parted = None
        self.leads = {}


def outcomes_from(couple, joint):
    """The outcomes of all labels that the marks allow in a joint world by form, ascending by label."""
    reader = read_joint(couple.kepts, joint)
    found = []
    for method, indexes in couple.all_calls:
        if allows(couple.mark_of(method), joint[0]):
            endings = range(RETURNED, couple.most_asks(method))
            outcomes = [Outcome((method, indexes, ending)) for ending in endings]
            try_all(couple, reader, joint[0], outcomes)
            found.extend(outcomes)
    return found


def try_all(couple, reader, is_open, outcomes):
    """Does all trials of a call, and notes in the outcomes of its labels what they lead to."""
    method, indexes, _ = outcomes[0].label
    laid_down = []
    while laid_down is not None:
        choices = Choices(laid_down)
        trial = Trial(couple, reader, choices)
        trial.play(method, indexes)
        note_trial(trial, outcomes, choices.taken, couple.mark_of(method), is_open)
        laid_down = choices.next_choices()


def note_trial(trial, outcomes, taken, mark, is_open):
    """Notes what one trial leads to; the first outcome is that of the call that returns, then they go by ask."""
    returned, raised = outcomes[0], outcomes[1:]
    if trial.is_parted:
        # A call that is raised at an ask that was calm does not come as far as to be parted.
        for outcome in [returned] + raised[len(trial.looks):]:
            if outcome.parted is None:
                outcome.parted = taken
    else:
        note_lead(returned, trial.looks[-1], taken, open_behind(mark, is_open, True))
    # The looks come ask by ask; a call that returned has one more, at its end.
    for outcome, look in zip(raised, trial.looks):
        note_lead(outcome, look, taken, open_behind(mark, is_open, False))


def note_lead(outcome, look, taken, is_open):
    """Notes a joint world to which a trial leads, unless the trial before has led to it."""
    if look is not None:
        outcome.leads.setdefault((is_open,) + look, taken)
