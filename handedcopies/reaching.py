"""Which goals can be reached, with the fewest calls (DOC.md, points 24 and 25)."""

from handedcopies.errors import BadWhen
from handedcopies.goals import WHENS, Looker, check_goal, is_met_by_run
from handedcopies.running import Run
from handedcopies.worlds import MOST_WORLDS, Table, plain_deeds

REACHED = "reached"
NEVER = "never"


class Answer:
    """Whether a goal is reached, with the paper that shows it."""

    def __init__(self, goal, when, paper):
        self.goal = goal
        self.when = when
        self.paper = paper

    def __bool__(self):
        return bool(self.paper[0] == REACHED)

    def __len__(self):
        # A world begins with no word, so no call is found in a paper without a history.
        return len([deed for deed in self.paper[1] if deed[0] == "call"])


def first_ways(tour, looker):
    """For each goal that is ever met: the labels of a history with the fewest calls that meets it."""
    ways = {}
    # The worlds come by ascending depth, so the first step that meets a goal has the fewest calls before it.
    for form in tour.forms:
        for done in tour.steps_from(form):
            for goal in looker.goals_of(done):
                if goal not in ways:
                    ways[goal] = tour.labels_to(form) + [done.label]
    return ways


def history_to(kept, goal, when, labels):
    """The deeds of calls with these labels, up to the one that meets the goal."""
    run = Run(kept)
    done = []
    for deed in plain_deeds(kept, *labels):
        run.do(deed)
        done.append(deed)
        if is_met_by_run(run, goal, when):
            break
    return tuple(done)


def reach(kept, goal, *, when="rest", most=MOST_WORLDS):
    """The answer for a goal."""
    check_goal(kept, goal, when)
    table = Table(kept, most=most)
    ways = first_ways(table.tour(), Looker(kept, when))
    if goal in ways:
        return Answer(goal, when, (REACHED, history_to(kept, goal, when, ways[goal])))
    return Answer(goal, when, (NEVER, tuple(table)))


def all_reached(kept, *, when="rest", most=MOST_WORLDS):
    """The least number of calls for each goal of a kept, None if it is never met."""
    if when not in WHENS:
        raise BadWhen(when)
    ways = first_ways(Table(kept, most=most).tour(), Looker(kept, when))
    return {goal: len(ways[goal]) if goal in ways else None for goal in kept.goals()}
