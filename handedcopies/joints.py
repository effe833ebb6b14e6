"""Joint worlds of two runs, and where the trials lead from them (DOC.md, points 33 to 36)."""

from handedcopies.errors import BadWorld, Busy
from handedcopies.faces import check_faces, check_lists
from handedcopies.jointforms import JointReader, could_part, joint_form
from handedcopies.outcomes import outcomes_from
from handedcopies.running import Run
from handedcopies.sides import Couple

MOST_JOINTS = 400


def first_joint(one, other):
    """The joint world of new runs of two kepts."""
    check_faces(one, other)
    return joint_of(Run(one), Run(other))


def joint_of(first, second):
    """The joint world of two runs that have done the same deeds with equal accounts, None if a put could part them."""
    if first.is_busy or second.is_busy:
        raise Busy()
    views = list(zip(first.viewed_boxes(), second.viewed_boxes()))
    if could_part(views):
        return None
    return joint_form(first.is_open, (first.inside_values(), second.inside_values()), views)


def is_joint(one, other, thing):
    """Whether a value, of any kind, is a joint world by form of two kepts."""
    check_faces(one, other)
    return JointReader((one, other)).take_all(thing)


def joint_steps(one, other, joint):
    """For each label that the marks allow: the joint worlds that its trials lead to, None if one of them parts."""
    check_faces(one, other)
    check_lists(one, other)
    if not is_joint(one, other, joint):
        raise BadWorld(joint)
    found = {}
    for outcome in outcomes_from(Couple(one, other), joint):
        found[outcome.label] = sorted(outcome.leads) if outcome.parted is None else None
    return found
