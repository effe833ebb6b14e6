"""Papers for goals: right ones are accepted, spoilt ones are not (point 25)."""

import unittest

from handedcopies.checking import is_paper
from handedcopies.errors import BadDeed, BadGoal, BadWhen, Busy, NotAsked, Shut
from handedcopies.reaching import WHENS, reach
from handedcopies.running import Run
from handedcopies.worlds import Table, World, first_world, labels_of, meets, step
from tests.makers import Chooser, made_kept
from tests.samples import SHELF, STRANGE_VALUES, kept_of, method_text
from tests.test_worlds import LENDER, NO_FORMS, SHELF_WORLDS, met

GET = ("call", "get", (0,))
KEEPER = """class A:
    a: [.]
    b: [.]
    def keep(p: [.]):
        self.b = copy(p)
    def swap():
        x = self.a
        self.a = self.b
        self.b = x
    def lend(f: [.] -> none):
        f(copy(self.a))
        f(new [.])"""


class ReachedTests(unittest.TestCase):
    def setUp(self):
        self.kept = kept_of(SHELF, "Shelf")

    def check(self, history, goal="rows[0]", is_right=True, kept=None, when="rest"):
        with self.subTest(history=history, goal=goal, when=when):
            self.assertIs(is_paper(kept or self.kept, goal, ("reached", history), when=when), is_right)

    def test_right_histories(self):
        for when in WHENS:
            self.check((GET,), when=when)
            self.check((("make", "[.]"), ("call", "put", (0, 0))), when=when)
            self.check((GET, GET, ("put", 0, 0, None), ("make", "[.]")), "seen rows[0]", when=when)
            self.check((("call", "get", (1,)), GET), when=when)
            self.check((("call", "get", (1,)), GET), "rows[1]", when=when)

    def test_spoilt_histories(self):
        self.check((), is_right=False)
        self.check((("make", "[.]"),), is_right=False)
        self.check((GET,), "rows[1]", False)
        self.check((GET,), "rows", False)
        self.check((GET,), "outside", False)
        self.check(GET, is_right=False)
        self.check([GET], is_right=False)
        self.check((list(GET),), is_right=False)
        self.check((("call", "get", [0]),), is_right=False)
        self.check((("call", "get", (False,)),), is_right=False)
        self.check((("call", "get", (2,)), GET), is_right=False)
        self.check((GET, ("raise",)), is_right=False)
        self.check((GET, ("reply", None)), is_right=False)
        self.check((GET, ("put", 0, 0, 0)), is_right=False)
        self.check((("call", "put", (0, 0)),), is_right=False)
        self.check((None, GET), is_right=False)
        for value in STRANGE_VALUES:
            self.check(value, is_right=False)
            self.check((value,), is_right=False)
            self.check((GET, value), is_right=False)

    def test_marks(self):
        kept = kept_of(LENDER, "A")
        lend, back = ("call", "lend", (0, None)), ("call", "back", ())
        opened = (lend, ("make", "[.]"), ("reply", 1), ("make", "[.]"), ("reply", 3))
        for when, is_right in (("rest", True), ("closed", False), ("ever", True)):
            self.check(opened, "b", is_right, kept, when)
            self.check(opened + (back,), "b", True, kept, when)
            self.check(opened[:3], "b", when == "ever", kept, when)
            self.check((lend,), "a[0]", when == "ever", kept, when)
            self.check((lend, ("make", "[.]")), "a[0]", when == "ever", kept, when)
            self.check((lend, ("raise",)), "a[0]", True, kept, when)
            self.check((back,) + opened, "b", False, kept, when)
            self.check(opened + (lend,), "b", False, kept, when)
            self.check((lend, lend), "a[0]", False, kept, when)

    def test_outside(self):
        kept = kept_of(method_text(["p[0] = f(new .)", "f(new .)"], "p: [.], f: . -> .", "a: [.]"), "A")
        history = (("make", "[.]"), ("call", "go", (0, None)), ("reply", None))
        for when in WHENS:
            self.check(history, "outside", True, kept, when)
            self.check(history[:2], "outside", False, kept, when)
            self.check(history + (("make", "[.]"),), "outside", False, kept, when)
            self.check(history + (("reply", None),), "outside", False, kept, when)
            self.check(history + (("raise",),), "outside", False, kept, when)

    def test_seen(self):
        kept = kept_of("class A:\n    a: [[.], .]\n    def look():\n        return view self.a", "A")
        look = (("call", "look", ()),)
        self.check(look, "seen a", True, kept)
        self.check(look, "a", False, kept)
        self.check(look, "a[0]", True, kept)
        self.check(look, "seen a[0]", True, kept)


class NeverTests(unittest.TestCase):
    def setUp(self):
        self.kept = kept_of(SHELF, "Shelf")

    def check(self, worlds, goal="rows", is_right=True, kept=None, when="rest"):
        with self.subTest(worlds=str(worlds)[:200], goal=goal, when=when):
            self.assertIs(is_paper(kept or self.kept, goal, ("never", worlds), when=when), is_right)

    def test_right_worlds(self):
        worlds = tuple(SHELF_WORLDS)
        for when in WHENS:
            for goal in ("rows", "seen rows", "outside"):
                self.check(worlds, goal, when=when)
                self.check(worlds[::-1], goal, when=when)
                self.check(worlds + worlds[1:3], goal, when=when)

    def test_more_worlds_than_the_table(self):
        worlds = tuple(SHELF_WORLDS)
        self.check(worlds + ((False, (-1, -1, 1)),))
        self.check(worlds + ((True, (-1, -3, -3)),))
        self.check(worlds + tuple((True, codes) for _, codes in worlds) + ((False, (-2, -3, -3)),))
        self.check(worlds + ((True, (-1, -1, -1)),), is_right=False)
        self.check(worlds + ((False, (-3,)),), is_right=False)
        self.check(worlds + ((False, (-2, -3, -3)),), "seen rows", is_right=False)

    def test_spoilt_worlds(self):
        worlds = tuple(SHELF_WORLDS)
        for at in range(4):
            self.check(worlds[:at] + worlds[at + 1:], is_right=False)
            for spoilt in ((0, worlds[at][1]), (False, list(worlds[at][1])), list(worlds[at]), worlds[at] + (None,),
                           (False, worlds[at][1][:2]), (False, worlds[at][1] + (-1,)), (None, worlds[at][1]),
                           (False, (-1, True, -1)), None, (), (True, worlds[at][1])):
                self.check(worlds[:at] + (spoilt,) + worlds[at + 1:], is_right=False)
            for spoilt in NO_FORMS:
                self.check(worlds[:at] + (spoilt,) + worlds[at:], is_right=False)
        self.check((), is_right=False)
        self.check(list(worlds), is_right=False)
        self.check(worlds, "rows[0]", False)
        self.check(worlds, "seen rows[1]", False)
        for value in STRANGE_VALUES:
            self.check(value, is_right=False)

    def test_goals_that_are_met_in_a_world_that_no_step_leads_to(self):
        kept = kept_of("class A:\n    a: [.]", "A")
        first = (False, (-1,))
        for when in WHENS:
            self.check((first,), "a", True, kept, when)
            self.check((first, (False, (-2,))), "a", True, kept, when)
            self.check((first, (False, (-2,))), "seen a", False, kept, when)
            self.check((first, (False, (-3,))), "a", False, kept, when)
            self.check((first, (True, (-3,))), "a", when == "closed", kept, when)
            self.check((first, (True, (-3,))), "outside", True, kept, when)
            self.check(((True, (-1,)),), "a", False, kept, when)

    def test_closed(self):
        text = ("class A:\n    a: [.]\n    enter start():\n        return self.a\n"
                "    exit stop():\n        self.a = new [.]")
        kept = kept_of(text, "A")
        worlds = ((False, (-1,)), (True, (-3,)))
        self.check(worlds, "a", False, kept, "rest")
        self.check(worlds, "a", True, kept, "closed")
        self.check(worlds, "a", False, kept, "ever")
        self.check(worlds + ((False, (-3,)),), "a", False, kept, "closed")

    def test_a_list_that_is_lent_stays_held_behind_a_raise(self):
        worlds = ((False, (-1, -1)),)
        for when in WHENS:
            for goal in kept_of(KEEPER, "A").goals():
                self.check(worlds, goal, True, kept_of(KEEPER, "A"), when)
            lender = kept_of(KEEPER.replace("f(copy(self.a))", "f(self.a)").replace(
                "f(new [.])", "self.a = new [.]"), "A")
            self.check(worlds, "b", False, lender, when)
            self.check(worlds + ((False, (-3, -1)),), "a", False, lender, when)
            safe = kept_of(KEEPER.replace("f(copy(self.a))", "x = self.a").replace(
                "f(new [.])", "self.a = new [.]\n        f(x)"), "A")
            self.check(worlds, "a", True, safe, when)

    def test_outside(self):
        text = "class A:\n    a: [.]\n    def go(p: [.], f: . -> none):\n        f(new .)\n        p[0] = p[0]"
        for when in WHENS:
            self.check(((False, (-1,)),), "outside", False, kept_of(text, "A"), when)
            self.check(((False, (-1,)),), "a", True, kept_of(text, "A"), when)


class BothTests(unittest.TestCase):
    def test_other_values(self):
        kept = kept_of(SHELF, "Shelf")
        worlds, history = tuple(SHELF_WORLDS), (GET,)
        self.assertIs(is_paper(kept, "rows", ("never", worlds)), True)
        self.assertIs(is_paper(kept, "rows[0]", ("reached", history)), True)
        for value in STRANGE_VALUES + (
                ("never",), ("reached",), ["never", worlds], ("never", worlds, ()), ("Never", worlds),
                ("reached", worlds), ("never", history), (None, worlds), (("never",), worlds), "never", "reached",
                ("reached", history, history), ["reached", history], ("outside", worlds), (worlds, "never")):
            for goal in ("rows", "rows[0]", "outside"):
                with self.subTest(str(value)[:50]):
                    self.assertIs(is_paper(kept, goal, value), False)
        self.assertIs(is_paper(kept, "rows[0]", ("never", worlds)), False)
        self.assertIs(is_paper(kept, "rows", ("reached", history)), False)

    def test_errors(self):
        kept = kept_of(SHELF, "Shelf")
        for value in STRANGE_VALUES + ("rows[2]", "seen", "Rows"):
            with self.subTest(goal=str(value)[:50]), self.assertRaises(BadGoal) as caught:
                is_paper(kept, value, None, when=None)
            self.assertIs(caught.exception.goal, value)
        for value in STRANGE_VALUES + ("open", "REST"):
            with self.subTest(when=str(value)[:50]), self.assertRaises(BadWhen) as caught:
                is_paper(kept, "rows", None, when=value)
            self.assertIs(caught.exception.when, value)

    def test_default_when(self):
        text = ("class A:\n    a: [.]\n    enter start():\n        return self.a\n"
                "    exit stop():\n        self.a = new [.]")
        kept = kept_of(text, "A")
        worlds = ((False, (-1,)), (True, (-3,)))
        self.assertFalse(is_paper(kept, "a", ("never", worlds)))
        self.assertTrue(is_paper(kept, "a", ("reached", (("call", "start", ()),))))

    def test_histories_by_chance(self):
        """Every beginning of a history is a paper exactly for the goals that a run meets there."""
        for seed in range(40):
            kept = made_kept(seed)
            chooser = Chooser(kept, seed + 2000)
            history = ()
            for _ in range(12):
                history += (chooser.step()[0],)
                for when in WHENS:
                    for goal in kept.goals():
                        self.assertEqual(is_paper(kept, goal, ("reached", history), when=when),
                                         met(chooser.run, goal, when))

    def test_spoilt_histories_by_chance(self):
        for seed in range(60):
            kept = made_kept(seed)
            for goal in kept.goals():
                for when in WHENS:
                    word, deeds = reach(kept, goal, when=when).paper
                    if word == "reached":
                        for at, deed in enumerate(deeds):
                            self.check_history(kept, goal, deeds[:at] + deeds[at + 1:], when)
                            self.check_history(kept, goal, deeds[:at] + (deed,) + deeds[at:], when)
                            self.check_history(kept, goal, deeds[:at] + (("make", "[[.]]"),) + deeds[at:], when)
                            self.check_history(kept, goal, deeds[:at] + (("raise",),) + deeds[at:], when)
                            self.check_history(kept, goal, deeds[:at] + (list(deed),) + deeds[at + 1:], when)

    def check_history(self, kept, goal, deeds, when):
        run = Run(kept)
        is_right = len(deeds) > 0
        try:
            run.follow(*deeds)
        except (BadDeed, Busy, NotAsked, Shut):
            is_right = False
        self.assertEqual(is_paper(kept, goal, ("reached", deeds), when=when), is_right and met(run, goal, when))

    def test_spoilt_worlds_by_chance(self):
        for seed in range(14):
            kept = made_kept(seed)
            worlds = tuple(Table(kept))
            if len(worlds) > 8:
                continue
            for goal in kept.goals():
                for when in WHENS:
                    self.check_worlds(kept, goal, worlds, when)
                    for at, (is_open, codes) in enumerate(worlds):
                        self.check_worlds(kept, goal, worlds[:at] + worlds[at + 1:], when)
                        other = (not is_open, codes)
                        self.check_worlds(kept, goal, worlds[:at] + (other,) + worlds[at + 1:], when)
                        self.check_worlds(kept, goal, worlds[:at] + (other,) + worlds[at:], when)

    def check_worlds(self, kept, goal, worlds, when):
        self.assertEqual(is_paper(kept, goal, ("never", worlds), when=when), self.are_right(kept, goal, worlds, when))

    def are_right(self, kept, goal, worlds, when):
        """Whether worlds by form are a paper, by what the interface tells of each."""
        if first_world(kept) not in worlds:
            return False
        for form in worlds:
            world = World(kept, form)
            if goal != "outside" and not (when == "closed" and world.is_open):
                state = world.state(goal.removeprefix("seen "))
                if state == "held" or (state == "seen" and goal.startswith("seen ")):
                    return False
            for label in labels_of(kept):
                try:
                    behind = step(kept, form, label)
                except Shut:
                    continue
                if behind not in worlds or meets(kept, form, label, goal, when=when):
                    return False
        return True
