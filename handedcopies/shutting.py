"""Which mends shut goals, the least ones and a fewest one (DOC.md, points 29 to 31)."""

from handedcopies.checking import are_closed, is_history
from handedcopies.errors import BadGoal, BadWhen, TooMany
from handedcopies.goals import WHENS, Looker
from handedcopies.mends import Mend, doors, free_name, is_mend_of, mended
from handedcopies.reaching import first_ways, history_to
from handedcopies.steps import Walker
from handedcopies.texts import MOST_CLASSES
from handedcopies.tours import Tour
from handedcopies.worlds import MOST_WORLDS, first_world

MOST_MENDS = 64
LEAST = "least"


def checked_goals(kept, goals, when):
    """The goals that are asked, or all goals for None; raises an error if they, or when, are wrong."""
    known = kept.goals()
    asked = known if goals is None else list(goals)
    for goal in asked:
        if goal not in known:
            raise BadGoal(goal)
    if when not in WHENS:
        raise BadWhen(when)
    return asked


def all_mends(kept):
    """All mends of a kept, ascending by pairs; raises TooMany if they cannot be tried."""
    if len(kept.library) == MOST_CLASSES:
        raise TooMany("classes")
    found = [()]
    for door, most_floors in doors(kept):
        ways = [()] + [((door, many),) for many in range(1, most_floors + 1)]
        found = [pairs + added for pairs in found for added in ways]
        if len(found) > MOST_MENDS:
            raise TooMany("mends")
    return [Mend(*pairs) for pairs in sorted(found)]


class Workshop:
    """A kept under any of its mends; what a call does is worked out once for all mends that are one at its method."""

    def __init__(self, kept):
        self._kept = kept
        self._name = free_name(kept.library)
        self._walkers = {}
        self._steps = {}

    def kept_under(self, mend):
        """The mended kept."""
        return mended(self._kept, mend, name=self._name)

    def steps_by(self, form, method, pairs):
        """The steps of a world by the labels of a method with these pairs of a mend at its doors."""
        key = (form, method, pairs)
        if key not in self._steps:
            if pairs not in self._walkers:
                self._walkers[pairs] = Walker(self.kept_under(Mend(*pairs)))
            self._steps[key] = self._walkers[pairs].steps_by(form, method)
        return self._steps[key]


class MendWalker:
    """Does the calls of a kept under a mend, as a Walker does."""

    def __init__(self, workshop, kept, mend):
        self._workshop = workshop
        self._pairs = {}
        for method in kept.methods:
            self._pairs[method] = tuple([pair for pair in mend.pairs if pair[0][0] == method])

    def steps_from(self, form):
        """The steps of a world by all labels that the marks allow."""
        found = []
        for method, pairs in self._pairs.items():
            found.extend(self._workshop.steps_by(form, method, pairs))
        return found


class Trying:
    """What trying all mends has shown: goods has the worlds for each good mend, bads the goals and their labels.

    Both are lists of (mend, shown).
    """

    def __init__(self, kept, goals, when, most):
        asked = checked_goals(kept, goals, when)
        mends = all_mends(kept)
        self.workshop = Workshop(kept)
        self.goods = []
        self.bads = []
        looker = Looker(kept, when)
        for mend in mends:
            tour = Tour(MendWalker(self.workshop, kept, mend), first_world(kept), most)
            ways = first_ways(tour, looker)
            met = [(goal, ways[goal]) for goal in asked if goal in ways]
            if met:
                self.bads.append((mend, met[0]))
            else:
                self.goods.append((mend, tuple(tour.forms)))

    def least(self):
        """The least good mends with their worlds, ascending by pairs."""
        mends = [mend for mend, _ in self.goods]
        return [(mend, forms) for mend, forms in self.goods
                if not any([other.within(mend) and other != mend for other in mends])]

    def greatest_bads(self):
        """The mends that are not good and are within no other such mend, each with a goal and labels that meet it."""
        mends = [mend for mend, _ in self.bads]
        return [(mend, shown) for mend, shown in self.bads
                if not any([mend.within(other) and other != mend for other in mends])]


def least_mends(kept, *, goals=None, when="rest", most=MOST_WORLDS):
    """All least good mends, ascending by pairs."""
    return [mend for mend, _ in Trying(kept, goals, when, most).least()]


def fewest_mend(kept, *, goals=None, when="rest", most=MOST_WORLDS):
    """The good mend with the fewest doors, the fewest floors, and the first pairs."""
    # A mend within a good one has no more doors and fewer floors, so a fewest mend is a least one.
    mends = least_mends(kept, goals=goals, when=when, most=most)
    pairs = min([(len(mend), mend.floors, mend.pairs) for mend in mends])[2]
    return Mend(*pairs)


def least_paper(kept, *, goals=None, when="rest", most=MOST_WORLDS):
    """A paper that shows the least mends."""
    trying = Trying(kept, goals, when, most)
    goods = [(mend.pairs, forms) for mend, forms in trying.least()]
    bads = []
    for mend, (goal, labels) in trying.greatest_bads():
        bads.append((mend.pairs, goal, history_to(trying.workshop.kept_under(mend), goal, when, labels)))
    return (LEAST, tuple(goods), tuple(bads))


class Judge:
    """Looks at the parts of a paper for the least mends; goods and bads keep the mends that are shown so far."""

    def __init__(self, kept, goals, when):
        self.goods = []
        self.bads = []
        self._kept = kept
        self._goals = goals
        self._when = when
        self._workshop = Workshop(kept)

    def takes_good(self, part):
        """Whether a value, of any kind, is a good mend with worlds that show it."""
        if not isinstance(part, tuple) or len(part) != 2 or not is_mend_of(self._kept, part[0]):
            return False
        pairs, forms = part
        mend = Mend(*pairs)
        self.goods.append(mend)
        return are_closed(self._workshop.kept_under(mend), self._goals, forms, self._when)

    def takes_bad(self, part):
        """Whether a value, of any kind, is a mend with a history that meets a goal under it."""
        if not isinstance(part, tuple) or len(part) != 3 or not is_mend_of(self._kept, part[0]):
            return False
        pairs, goal, deeds = part
        mend = Mend(*pairs)
        self.bads.append(mend)
        return goal in self._goals and is_history(self._workshop.kept_under(mend), goal, deeds, self._when)

    def decides(self, mend):
        """Whether the goods show that a mend is good, or the bads that it is not."""
        return any([good.within(mend) for good in self.goods]) or any([mend.within(bad) for bad in self.bads])

    def has_least_only(self):
        """Whether no mend of the goods has another one of them within it."""
        return not any([one.within(other) and one != other for one in self.goods for other in self.goods])


def is_least(kept, thing, *, goals=None, when="rest"):
    """Whether a value, of any kind, is a paper that shows the least mends."""
    asked = checked_goals(kept, goals, when)
    mends = all_mends(kept)
    if not isinstance(thing, tuple) or len(thing) != 3 or thing[0] != LEAST:
        return False
    _, goods, bads = thing
    if not isinstance(goods, tuple) or not isinstance(bads, tuple):
        return False
    judge = Judge(kept, asked, when)
    if not all([judge.takes_good(part) for part in goods]) or not all([judge.takes_bad(part) for part in bads]):
        return False
    return judge.has_least_only() and all([judge.decides(mend) for mend in mends])
