"""Which goals are reached, when, and with how many calls (points 24 and 25)."""

import unittest

from handedcopies.checking import is_paper
from handedcopies.errors import BadGoal, BadWhen, Shut, TooMany
from handedcopies.reaching import WHENS, Answer, all_reached, reach
from handedcopies.running import Run
from handedcopies.worlds import Table, labels_of, plain_deeds
from tests.makers import Chooser, made_kept
from tests.pythons import History
from tests.samples import SHELF, STRANGE_VALUES, kept_of, method_text
from tests.test_worlds import FIRST, LENDER, SHELF_WORLDS, met

CHAIN = """class A:
    a: [[.]]
    b: [.]
    c: [.]
    def put(p: [.]):
        self.b = p
    def move():
        self.c = self.b
    def sink():
        self.a[0] = self.c
    def write(v: .):
        self.a[0][0] = v"""


def calls_of(history):
    return sum(deed[0] == "call" for deed in history)


def meets_behind(kept, history, goal, when):
    """Whether the classes in Python meet a goal behind a history."""
    told = History(kept, history).play()
    assert len(told) == len(history)
    if goal == "outside":
        return told[-1]["outside"]
    if when != "ever" and told[-1]["busy"] or when == "closed" and told[-1]["open"]:
        return False
    place = goal.removeprefix("seen ")
    return told[-1]["hand_at"][place] is not None or (goal != place and told[-1]["seen"][place])


class ReachTests(unittest.TestCase):
    def check(self, kept, expected, when="rest"):
        """What all goals need, also one by one; goals that are left out are never met."""
        self.assertEqual(WHENS, ("rest", "closed", "ever"))
        found = all_reached(kept, when=when)
        self.assertEqual(list(found), kept.goals())
        self.assertEqual({goal: calls for goal, calls in found.items() if calls is not None}, expected)
        for goal, calls in found.items():
            answer = reach(kept, goal, when=when)
            self.assertIsInstance(answer, Answer)
            self.assertEqual((answer.goal, answer.when), (goal, when))
            self.assertEqual((bool(answer), len(answer)), (calls is not None, calls or 0))
            self.assertTrue(is_paper(kept, goal, answer.paper, when=when))
            self.assertEqual(reach(kept, goal, when=when).paper, answer.paper)
            if answer:
                self.assertEqual((answer.paper[0], calls_of(answer.paper[1])), ("reached", calls))
                self.assertTrue(meets_behind(kept, answer.paper[1], goal, when))
            else:
                self.assertEqual(answer.paper, ("never", tuple(Table(kept))))

    def test_shelf(self):
        kept = kept_of(SHELF, "Shelf")
        for when in WHENS:
            self.check(kept, {"rows[0]": 1, "seen rows[0]": 1, "rows[1]": 1, "seen rows[1]": 1}, when)
        self.assertEqual(reach(kept, "rows").paper, ("never", tuple(SHELF_WORLDS)))

    def test_chain(self):
        kept = kept_of(CHAIN, "A")
        for when in WHENS:
            self.check(kept, {"b": 1, "seen b": 1, "c": 2, "seen c": 2, "a[0]": 3, "seen a[0]": 3, "outside": 4}, when)

    def test_lender(self):
        kept = kept_of(LENDER, "A")
        self.check(kept, {"seen a": 1, "a[0]": 1, "seen a[0]": 1, "b": 1, "seen b": 1, "outside": 1})
        self.check(kept, {"seen a": 1, "a[0]": 1, "seen a[0]": 1, "b": 1, "seen b": 1, "outside": 1}, "closed")

    def test_whens(self):
        text = """class A:
    a: [.]
    b: [.]
    c: [.]
    enter start():
        return self.a
    exit stop():
        self.a = new [.]
    def lend(f: [.] -> none):
        f(self.b)
        self.b = new [.]
    def turn(f: . -> none):
        f(new .)
        x = self.c
        x[0] = new ."""
        kept = kept_of(text, "A")
        self.check(kept, {"a": 1, "seen a": 1, "b": 1, "seen b": 1}, "rest")
        self.check(kept, {"b": 1, "seen b": 1}, "closed")
        self.check(kept, {"a": 1, "seen a": 1, "b": 1, "seen b": 1}, "ever")
        text = text.replace("lend(f: [.] -> none)", "lend(f: [.] -> none, g: [.] -> none)")
        text = text.replace("        f(self.b)\n", "        f(copy(self.b))\n        g(self.b)\n")
        self.assertEqual(reach(kept_of(text, "A"), "b").paper,
                         ("reached", (("call", "lend", (None, None)), ("reply", None), ("raise",))))

    def test_a_place_that_is_only_lent(self):
        text = method_text(["x = self.a", "self.a = new [.]", "f(x)", "self.b = x", "self.b = new [.]"],
                           "f: [.] -> none", "a: [.]; b: [.]")
        for when in WHENS:
            self.check(kept_of(text, "A"), {}, when)
        text = method_text(["f(self.a)", "self.a = new [.]", "f(self.b)"], "f: [.] -> none", "a: [.]; b: [.]")
        self.check(kept_of(text, "A"), {"a": 1, "seen a": 1, "b": 1, "seen b": 1}, "ever")
        self.assertEqual(reach(kept_of(text, "A"), "a", when="ever").paper, ("reached", (("call", "go", (None,)),)))

    def test_an_exit_that_takes_back(self):
        text = """class A:
    a: [.]
    enter start():
        return self.a
    exit stop(f: . -> none):
        self.a = new [.]
        f(new .)"""
        kept = kept_of(text, "A")
        self.check(kept, {"a": 1, "seen a": 1}, "rest")
        self.check(kept, {"a": 1, "seen a": 1}, "ever")
        self.check(kept, {}, "closed")
        late = kept_of(text.replace("self.a = new [.]\n        f(new .)", "f(new .)\n        self.a = new [.]"), "A")
        self.check(late, {"a": 2, "seen a": 2}, "closed")
        self.assertEqual(reach(late, "a", when="closed").paper[1][-1], ("raise",))

    def test_views(self):
        kept = kept_of("class A:\n    a: [[.], .]\n    def look():\n        return view self.a", "A")
        for when in WHENS:
            self.check(kept, {"seen a": 1, "a[0]": 1, "seen a[0]": 1}, when)

    def test_outside_ends_with_the_deed_that_does_the_row(self):
        text = method_text(["f(self.a)", "self.a[0] = new .", "f(self.a)"], "f: [.] -> none", "a: [.]")
        for when in WHENS:
            self.check(kept_of(text, "A"), {"a": 1, "seen a": 1, "outside": 1}, when)
            self.assertEqual(reach(kept_of(text, "A"), "outside", when=when).paper,
                             ("reached", (("call", "go", (None,)), ("reply", None))))

    def test_nothing_to_reach(self):
        for when in WHENS:
            self.check(kept_of("class A:", "A"), {}, when)
            self.check(kept_of("class A:\n    def go(p: [.]):\n        p[0] = p[0]", "A"), {"outside": 1}, when)

    def test_as_by_search_over_runs(self):
        for seed in range(80):
            kept = made_kept(seed)
            table = Table(kept)
            least = {when: dict.fromkeys(kept.goals()) for when in WHENS}
            for form in table:
                labels = table.tour().labels_to(form)
                for label in labels_of(kept):
                    try:
                        deeds = plain_deeds(kept, *labels, label)
                    except Shut:
                        continue
                    run = Run(kept)
                    for deed in deeds:
                        run.do(deed)
                        for when in WHENS:
                            for goal in kept.goals():
                                if met(run, goal, when):
                                    before = least[when][goal]
                                    least[when][goal] = min(run.calls, before or run.calls)
            for when in WHENS:
                self.check(kept, {goal: calls for goal, calls in least[when].items() if calls}, when)

    def test_no_caller_does_better(self):
        for seed in range(100):
            kept = made_kept(seed)
            least = {when: all_reached(kept, when=when) for when in WHENS}
            chooser = Chooser(kept, seed + 1000)
            for _ in range(40):
                chooser.step()
                for when in WHENS:
                    for goal, calls in least[when].items():
                        if met(chooser.run, goal, when):
                            self.assertIsNotNone(calls, (seed, goal, when))
                            self.assertLessEqual(calls, chooser.run.calls, (seed, goal, when))

    def test_default_when(self):
        text = method_text(["f(self.a)", "self.a = new [.]"], "f: [.] -> none", "a: [.]")
        kept = kept_of(text.replace("def go", "enter go"), "A")
        self.assertEqual(reach(kept, "a").when, "rest")
        self.assertEqual(all_reached(kept)["a"], 1)
        kept = kept_of("class A:\n    a: [.]\n    enter go():\n        return self.a", "A")
        self.assertEqual((len(reach(kept, "a")), all_reached(kept)["a"], all_reached(kept, when="closed")["a"]),
                         (1, 1, None))


class WrongValueTests(unittest.TestCase):
    def test_goals_and_whens(self):
        kept = kept_of(SHELF, "Shelf")
        for value in STRANGE_VALUES + ("seen", "seen outside", "rows[2]", "rows[0][0]", "Rows", "rows ", "seen  rows",
                                       ("rows",), ["rows"], "at", "row"):
            with self.subTest(goal=str(value)[:50]), self.assertRaises(BadGoal) as caught:
                reach(kept, value, when="no", most=1)
            self.assertIs(caught.exception.goal, value)
        for value in STRANGE_VALUES + ("open", "rest ", "Ever", ("rest",), ["rest"]):
            for ask in (lambda: reach(kept, "rows", when=value, most=1), lambda: all_reached(kept, when=value, most=1)):
                with self.subTest(when=str(value)[:50]), self.assertRaises(BadWhen) as caught:
                    ask()
                self.assertIs(caught.exception.when, value)

    def test_bound(self):
        kept = kept_of(SHELF, "Shelf")
        for ask in (lambda most: reach(kept, "rows[0]", most=most), lambda most: reach(kept, "rows", most=most),
                    lambda most: all_reached(kept, most=most)):
            with self.assertRaises(TooMany) as caught:
                ask(3)
            self.assertEqual(caught.exception.what, "worlds")
            ask(4)

    def test_papers_are_as_told(self):
        kept = kept_of(SHELF, "Shelf")
        self.assertEqual(reach(kept, "rows[1]").paper, ("reached", (("call", "get", (1,)),)))
        found = all_reached(kept)
        found.clear()
        self.assertEqual(len(all_reached(kept)), len(kept.goals()))
        self.assertEqual(FIRST, reach(kept, "rows").paper[1][0])
