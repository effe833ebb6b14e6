"""Whether two classes are alike for all callers (DOC.md, points 32 to 36)."""

from handedcopies.checking import can_do
from handedcopies.errors import TooMany
from handedcopies.faces import check_faces, check_lists
from handedcopies.joints import MOST_JOINTS, first_joint, is_joint
from handedcopies.mends import check_doors, free_name, mended
from handedcopies.outcomes import outcomes_from
from handedcopies.parting import Replay
from handedcopies.running import Run
from handedcopies.sides import Couple

ALIKE = "alike"
PARTED = "parted"
MOST_COMPARED = 6


class Likeness:
    """Whether two classes are alike, with the paper that shows it."""

    def __init__(self, paper):
        self.paper = paper

    def __bool__(self):
        return bool(self.paper[0] == ALIKE)

    def __len__(self):
        # A joint world begins with no word, so no call is found in a paper without a history.
        return len([part for part in self.paper[1] if part[0] == "call"])


class Search:
    """All joint worlds that calm trials lead to from the first one, and the first trial that parts.

    A way is (joint world, label, choices) of a trial; parting is the way that parts with the fewest calls, or None.
    """

    def __init__(self, couple, most):
        self.parting = None
        self._couple = couple
        self._most = most
        first = first_joint(*couple.kepts)
        self._ways = {first: None}
        layer = [first]
        while layer:
            layer = self._next_layer(layer)

    def _next_layer(self, layer):
        """The joint worlds that are met first behind those of a layer."""
        found = []
        for joint in layer:
            for outcome in outcomes_from(self._couple, joint):
                if outcome.parted is not None and self.parting is None:
                    self.parting = (joint, outcome.label, outcome.parted)
                for lead, taken in outcome.leads.items():
                    if lead not in self._ways:
                        self._ways[lead] = (joint, outcome.label, taken)
                        found.append(lead)
            if len(self._ways) > self._most:
                raise TooMany("joints")
        return found

    def joints(self):
        """The joint worlds, ascending."""
        return sorted(self._ways)

    def history(self):
        """The deeds of a history with the fewest calls that parts the kepts."""
        ways = []
        way = self._ways[self.parting[0]]
        while way is not None:
            ways.append(way)
            way = self._ways[way[0]]
        replay = Replay(self._couple)
        for joint, label, taken in ways[::-1]:
            replay.play_calm(joint, label, taken)
        joint, label, taken = self.parting
        replay.play_parting(joint, label, taken)
        return replay.deeds


def check_pair(one, other):
    """Raises UnlikeFaces or TooMany if two kepts cannot be compared."""
    check_faces(one, other)
    check_lists(one, other)


def compare(one, other, *, most=MOST_JOINTS):
    """Whether two kepts are alike."""
    check_pair(one, other)
    search = Search(Couple(one, other), most)
    if search.parting is None:
        return Likeness((ALIKE, tuple(search.joints())))
    return Likeness((PARTED, tuple(search.history())))


def do_part(one, other, deeds):
    """Whether a value, of any kind, is a history that parts two kepts."""
    if not isinstance(deeds, tuple):
        return False
    first, second = Run(one), Run(other)
    for deed in deeds:
        # Two runs with equal accounts can do the same deeds.
        if first.account() != second.account() or not can_do(first, deed) or not can_do(second, deed):
            return False
    return first.account() != second.account()


def are_closed_joints(one, other, joints):
    """Whether a value, of any kind, is a tuple of joint worlds that no trial parts and that none leaves."""
    if not isinstance(joints, tuple) or not all([is_joint(one, other, joint) for joint in joints]):
        return False
    among = {joint: True for joint in joints}
    if first_joint(one, other) not in among:
        return False
    couple = Couple(one, other)
    for joint in among:
        for outcome in outcomes_from(couple, joint):
            if outcome.parted is not None or not all([lead in among for lead in outcome.leads]):
                return False
    return True


def is_likeness(one, other, thing):
    """Whether a value, of any kind, is a paper that two kepts are alike, or that they are not."""
    check_pair(one, other)
    if not isinstance(thing, tuple) or len(thing) != 2:
        return False
    if thing[0] == PARTED:
        return do_part(one, other, thing[1])
    return thing[0] == ALIKE and are_closed_joints(one, other, thing[1])


def like_groups(kept, *mends, most=MOST_JOINTS):
    """The indexes of the mends, those in one list whose mended kepts are alike."""
    if len(mends) > MOST_COMPARED:
        raise TooMany("mends")
    for mend in mends:
        check_doors(kept, mend)
    name = free_name(kept.library)
    kepts = [mended(kept, mend, name=name) for mend in mends]
    # Trials of any two of them have as many lists, so the first two tell at once if these are too many.
    alike = {}
    for at, one in enumerate(kepts):
        for behind in range(at + 1, len(kepts)):
            alike[(at, behind)] = bool(compare(one, kepts[behind], most=most))
    groups = []
    for at in range(len(kepts)):
        found = [group for group in groups if alike[(group[0], at)]]
        if found:
            found[0].append(at)
        else:
            groups.append([at])
    return groups
