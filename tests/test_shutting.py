"""Good, least and fewest mends, with their papers (points 29 to 31)."""

import itertools
import random
import unittest

from handedcopies.checking import is_paper
from handedcopies.errors import BadGoal, BadWhen, TooMany
from handedcopies.families import Library
from handedcopies.mends import Mend, doors, mended
from handedcopies.reaching import WHENS, all_reached
from handedcopies.shutting import MOST_MENDS, fewest_mend, is_least, least_mends, least_paper
from handedcopies.worlds import Table
from tests.makers import made_kept
from tests.samples import SHELF, STRANGE_VALUES, kept_of
from tests.test_mends import GET, PUT

FIRST = (False, (-1, -1, -1))
DEEP = """class Deep:
    a: [[.], .]
    b: [.]
    def put(p: [[.], .], q: [.]):
        self.a = p
        self.b = q
    def look():
        return view self.a
    def get():
        return self.b"""
LENT = """class Lent:
    a: [.]
    b: [.]
    enter lend():
        return self.a
    exit back():
        self.a = new [.]
    def show(f: [.] -> none):
        f(self.b)
        self.b = new [.]"""


def every_mend(kept):
    """All mends of a kept."""
    pairs = doors(kept)
    return [Mend(*[(door, floors) for (door, _), floors in zip(pairs, choice) if floors])
            for choice in itertools.product(*[range(most + 1) for _, most in pairs])]


def good_mends(kept, goals, when):
    """The mends under which no goal is met, one mended kept after another."""
    found = []
    for mend in every_mend(kept):
        calls = all_reached(mended(kept, mend, name="Tried"), when=when, most=1000)
        if all(calls[goal] is None for goal in goals):
            found.append(mend)
    return found


def least_of(goods):
    return sorted((mend.pairs for mend in goods if not any(
        other != mend and other.within(mend) for other in goods)))


class LeastTests(unittest.TestCase):
    def check(self, kept, expected, goals=None, when="rest"):
        found = least_mends(kept, goals=goals, when=when)
        self.assertEqual([mend.pairs for mend in found], expected)
        for mend in found:
            self.assertIsInstance(mend, Mend)
        fewest = min(expected, key=lambda pairs: (len(pairs), sum(floors for _, floors in pairs), pairs))
        self.assertEqual(fewest_mend(kept, goals=goals, when=when).pairs, fewest)
        paper = least_paper(kept, goals=goals, when=when)
        self.assertEqual((paper[0], [pairs for pairs, _ in paper[1]]), ("least", expected))
        self.assertTrue(is_least(kept, paper, goals=goals, when=when))
        asked = kept.goals() if goals is None else goals
        for pairs, worlds in paper[1]:
            for goal in asked:
                self.assertTrue(is_paper(mended(kept, Mend(*pairs)), goal, ("never", worlds), when=when))
        for pairs, goal, history in paper[2]:
            self.assertIn(goal, asked)
            self.assertTrue(is_paper(mended(kept, Mend(*pairs)), goal, ("reached", history), when=when))

    def test_all_goals(self):
        self.check(kept_of(SHELF, "Shelf"), [((GET, 1), (PUT, 1))])
        self.check(kept_of(SHELF, "Guarded"), [((PUT, 1),)])
        self.check(kept_of(DEEP, "Deep"), [(
            (("get", "result", -1), 1), (("look", "result", -1), 2), (("put", "in", 0), 2), (("put", "in", 1), 1))])
        self.check(kept_of("class A:\n    a: [.]", "A"), [()])

    def test_some_goals(self):
        kept = kept_of(DEEP, "Deep")
        look, first, second = ("look", "result", -1), ("put", "in", 0), ("put", "in", 1)
        self.check(kept, [((first, 1),)], ["a"])
        self.check(kept, [((look, 1), (first, 1))], ["seen a"])
        self.check(kept, [((look, 2), (first, 2))], ["a[0]"])
        self.check(kept, [((look, 2), (first, 2))], ("a", "seen a[0]", "a"))
        self.check(kept, [((("get", "result", -1), 1), (second, 1))], ("b",))
        self.check(kept, [()], ["outside"])
        self.check(kept, [()], [])
        self.check(kept, [()], ())

    def test_whens(self):
        kept = kept_of(LENT, "Lent")
        lend, show = (("lend", "result", -1), 1), (("show", "out", 0), 1)
        self.check(kept, [()], when="closed", goals=["a", "seen a"])
        self.check(kept, [(lend,)], ["a"], "rest")
        self.check(kept, [(lend,)], ["a", "a"], "ever")
        self.check(kept, [(show,)], ["b"], "ever")
        self.check(kept, [(show,)], ["b"], "closed")
        self.check(kept, [(lend, show)])
        self.check(kept, [(lend, show)], when="ever")
        self.check(kept, [(show,)], when="closed")

    def test_outside(self):
        text = "\n".join(["class A:", "    def go(p: [.], f: [.] -> [.]):", "        x = f(new [.])",
                          "        x[0] = new .", "        p[0] = new ."])
        goods = [((("go", "back", 1), 1), (("go", "in", 0), 1))]
        for when in WHENS:
            self.check(kept_of(text, "A"), goods, when=when)
            self.check(kept_of(text, "A"), goods, ["outside"], when)

    def test_default_arguments(self):
        kept = kept_of(SHELF, "Shelf")
        self.assertEqual([mend.pairs for mend in least_mends(kept=kept)], [((GET, 1), (PUT, 1))])
        self.assertEqual(fewest_mend(kept=kept, most=4), Mend((GET, 1), (PUT, 1)))
        self.assertTrue(is_least(kept=kept, thing=least_paper(kept=kept, most=4)))

    def test_as_all_mends_tell(self):
        rng = random.Random(11)
        for seed in range(100):
            kept = made_kept(seed)
            goals = rng.choice((kept.goals(), kept.goals()[-1:], rng.sample(kept.goals(), min(2, len(kept.goals())))))
            when = rng.choice(WHENS)
            if len(every_mend(kept)) > 24:
                continue
            with self.subTest(seed=seed, goals=goals, when=when):
                goods = good_mends(kept, goals, when)
                self.check(kept, least_of(goods), goals, when)
                self.assertIn(Mend.all_of(kept), goods)
                for mend in every_mend(kept):
                    self.assertEqual(mend in goods, any(good.within(mend) for good in goods))

    def test_a_library_with_mended_classes(self):
        text = SHELF + "\nclass Mended(Shelf):\nclass Mendeda:"
        expected = ((GET, 1), (PUT, 1))
        for name in ("Shelf", "Mended"):
            kept = kept_of(text, name)
            self.check_taken(kept, expected)

    def check_taken(self, kept, expected):
        self.assertEqual([mend.pairs for mend in least_mends(kept)], [expected])
        self.assertEqual(fewest_mend(kept).pairs, expected)
        self.assertTrue(is_least(kept, least_paper(kept)))


class BoundTests(unittest.TestCase):
    def raises(self, what, kept, goals=None, when="rest", most=400):
        for ask in (least_mends, fewest_mend, least_paper):
            with self.assertRaises(TooMany) as caught:
                ask(kept, goals=goals, when=when, most=most)
            self.assertEqual(caught.exception.what, what)

    def test_mends(self):
        self.assertEqual(MOST_MENDS, 64)
        lines = ["class A:", "    a: [.]"]
        for name in ("get", "go", "put"):
            lines += [f"    def {name}(p: [.]):", "        self.a = p", "        return self.a"]
        kept = kept_of("\n".join(lines), "A")
        self.assertEqual(len(every_mend(kept)), 64)
        self.assertEqual([mend.pairs for mend in least_mends(kept)], [Mend.all_of(kept).pairs])
        self.assertTrue(is_least(kept, least_paper(kept)))
        for more in ("    def set(p: [.]):", "    def set():\n        return new [.]"):
            kept = kept_of("\n".join(lines + [more]), "A")
            self.raises("mends", kept)
            self.raises("mends", kept, most=1)
            with self.assertRaises(TooMany) as caught:
                is_least(kept, None)
            self.assertEqual(caught.exception.what, "mends")
        text = "class A:\n    def go(p: [[[.]]], q: [[[.]]], r: [[[.]]]):"
        self.assertEqual([mend.pairs for mend in least_mends(kept_of(text, "A"))], [()])
        self.raises("mends", kept_of(text + "\n        return p", "A"))

    def test_worlds(self):
        kept = kept_of(SHELF, "Shelf")
        self.assertEqual(len(least_mends(kept, most=4)), 1)
        self.raises("worlds", kept, most=3)
        self.raises("worlds", kept, [], most=3)

    def test_worlds_under_another_mend(self):
        # Without copies the caller soon holds the whole list; with copies the worlds tell which items are one list.
        text = "\n".join([
            "class A:", "    a: [[.], [.], [.]]", "    def one():", "        self.a[1] = self.a[0]",
            "        return self.a", "    def two():", "        self.a[2] = self.a[1]", "        return self.a"])
        kept = kept_of(text, "A")
        sizes = [len(Table(mended(kept, mend))) for mend in every_mend(kept)]
        self.assertEqual((sizes[0], max(sizes)), (2, 4))
        self.assertEqual(len(least_mends(kept, most=max(sizes))), 1)
        self.raises("worlds", kept, most=max(sizes) - 1)

    def test_classes(self):
        eight = kept_of(SHELF + "\n" + "\n".join(f"class {name}:" for name in "ABCDEF"), "Shelf")
        self.raises("classes", eight)
        with self.assertRaises(TooMany) as caught:
            is_least(eight, None)
        self.assertEqual(caught.exception.what, "classes")
        self.assertEqual(len(Library(eight.library.text)), 8)

    def test_order_of_errors(self):
        many = "class A:\n    a: [.]\n    def go(p: [[[.]]], q: [[[.]]], r: [[[.]]]):\n        return p"
        eight = kept_of(many + "\n" + "\n".join(f"class {name}:" for name in "BCDEFGH"), "A")
        for ask in (least_mends, fewest_mend, least_paper, lambda kept, **more: is_least(kept, None, **more)):
            with self.assertRaises(BadGoal) as caught:
                ask(eight, goals=["a", "seen b", "c"], when="no")
            self.assertEqual(caught.exception.goal, "seen b")
            with self.assertRaises(BadWhen) as caught:
                ask(eight, goals=["a"], when="no")
            self.assertEqual(caught.exception.when, "no")
            with self.assertRaises(TooMany) as caught:
                ask(eight)
            self.assertEqual(caught.exception.what, "classes")

    def test_any_goals_and_whens(self):
        kept = kept_of(SHELF, "Shelf")
        for ask in (least_mends, fewest_mend, least_paper, lambda kept, **more: is_least(kept, None, **more)):
            for value in STRANGE_VALUES + ("rows[2]", "seen  rows", "Rows", "rows ", "rest"):
                for goals in ([value], ("rows", value), ["rows", value, "no"]):
                    with self.assertRaises(BadGoal) as caught:
                        ask(kept, goals=goals)
                    self.assertIs(caught.exception.goal, value)
            for value in STRANGE_VALUES + ("Rest", "rows"):
                with self.assertRaises(BadWhen) as caught:
                    ask(kept, when=value, goals=())
                self.assertIs(caught.exception.when, value)


class PaperTests(unittest.TestCase):
    def setUp(self):
        self.kept = kept_of(SHELF, "Shelf")
        self.good = (((GET, 1), (PUT, 1)), (FIRST,))
        self.get_only = (((GET, 1),), "rows[0]", (("make", "[.]"), ("call", "put", (0, 0))))
        self.put_only = (((PUT, 1),), "seen rows[1]", (("call", "get", (1,)),))

    def check(self, is_right, goods, bads, goals=None, when="rest", kept=None):
        with self.subTest(goods=str(goods)[:200], bads=str(bads)[:200], goals=goals):
            self.assertIs(is_least(kept or self.kept, ("least", goods, bads), goals=goals, when=when), is_right)

    def test_right_papers(self):
        good, bads = self.good, (self.get_only, self.put_only)
        self.check(True, (good,), bads)
        self.check(True, (good,), bads[::-1])
        self.check(True, (good, good), bads + bads)
        nothing = ((), "rows[0]", (("call", "get", (0,)),))
        self.check(True, (good,), bads + (nothing,))
        self.check(True, (good,), bads, ["rows[0]", "seen rows[1]"])
        more = ((FIRST[0], FIRST[1]), (False, (-1, -1, 1)), FIRST)
        self.check(True, ((good[0], more),), bads)
        longer = (self.get_only[0], "rows[0]", (("call", "get", (1,)),) + self.get_only[2])
        self.check(True, (good,), (longer, self.put_only))

    def test_no_goals(self):
        worlds = tuple(Table(self.kept))
        self.check(True, (((), worlds),), (), [])
        self.check(True, (((), worlds[::-1] + worlds),), (), ())
        self.check(False, (((), worlds[1:]),), (), [])
        self.check(False, (((), worlds[:3]),), (), [])
        self.check(False, (((), ()),), (), [])
        self.check(False, (), (), [])
        self.check(False, (((), worlds),), (self.put_only,), [])
        self.check(False, (self.good,), (), [])
        self.check(False, (((), worlds), self.good), (), [])

    def test_missing_parts(self):
        good, bads = self.good, (self.get_only, self.put_only)
        self.check(False, (), bads)
        self.check(False, (good,), ())
        self.check(False, (good,), bads[:1])
        self.check(False, (good,), bads[1:])
        self.check(False, (good,), (((), "rows[0]", (("call", "get", (0,)),)),))

    def test_not_the_least(self):
        kept = kept_of(DEEP, "Deep")
        paper = least_paper(kept, goals=["a"])
        pairs = ((("put", "in", 0), 1),)
        more = ((("put", "in", 0), 2),)
        worlds = tuple(Table(mended(kept, Mend(*more))))
        self.assertEqual([part[0] for part in paper[1]], [pairs])
        self.check(True, paper[1], paper[2], ["a"], kept=kept)
        self.check(False, ((more, worlds),), paper[2], ["a"], kept=kept)
        self.check(False, paper[1] + ((more, worlds),), paper[2], ["a"], kept=kept)

    def test_spoilt_goods(self):
        bads = (self.get_only, self.put_only)
        pairs, worlds = self.good
        for spoilt in (pairs[::-1], list(pairs), pairs[:1], pairs + pairs[1:], ((GET, 1), (PUT, 2)),
                       ((GET, 1), (PUT, True)), ((GET, 1), (("put", "in", True), 1)), ((GET, 1), (("put", "in", 0), 1)),
                       ((GET, 1), (("zoo", "in", 1), 1)), ((GET, 1), [PUT, 1]), ((GET, 1), (list(PUT), 1)), (GET, 1),
                       ((GET, 1), (PUT, 0)), ((GET, 1), (PUT, 1), (("zoo", "in", 1), 1)),
                       ((GET, 1), (PUT, 1), (PUT, 1))):
            self.check(False, ((spoilt, worlds),), bads)
            self.check(False, (self.good, (spoilt, worlds)), bads)
        for spoilt in ((), [FIRST], FIRST, ((0, FIRST[1]),), ((True, FIRST[1]),), ((False, (-1, -3, -1)),),
                       (FIRST, (False, (-1, -3, -1))), (FIRST, (False, (-2, -3, -3))), (FIRST, None), (FIRST, [])):
            self.check(False, ((pairs, spoilt),), bads)
            self.check(False, (self.good, (pairs, spoilt)), bads)
        for spoilt in ((pairs,), (pairs, worlds, worlds), [pairs, worlds], None, (), pairs):
            self.check(False, (self.good, spoilt), bads)

    def test_spoilt_bads(self):
        pairs, goal, history = self.get_only
        for spoilt in ((pairs, "rows", history), (pairs, "rows[1]", history), (pairs, goal, history[:1]),
                       (pairs, goal, ()), (pairs, goal, list(history)), (pairs, goal, (("call", "get", (0,)),)),
                       (pairs, None, history), (pairs, [goal], history), (pairs, goal), (pairs, goal, history, 0),
                       [pairs, goal, history], (list(pairs), goal, history), (((GET, 2),), goal, history),
                       (((GET, True),), goal, history), (((GET, 1), (GET, 1)), goal, history), (None, goal, history),
                       (((GET, 1), (PUT, 1)), goal, history), None, (), (pairs, goal, history + (("reply", None),))):
            self.check(False, (self.good,), (spoilt, self.put_only))
            self.check(False, (self.good,), (self.get_only, self.put_only, spoilt))
        self.check(False, (self.good,), (self.get_only, self.put_only), ["rows[0]"])
        self.check(False, (self.good,), (self.get_only, self.put_only), ["seen rows[1]"])

    def test_any_values(self):
        paper = ("least", (self.good,), (self.get_only, self.put_only))
        self.assertTrue(is_least(self.kept, paper))
        self.assertTrue(is_least(self.kept, paper, goals=["seen rows[1]", "rows[0]", "rows[0]"]))
        self.assertFalse(is_least(self.kept, list(paper)))
        for value in STRANGE_VALUES + ("least", ("least",), paper[:2], paper + ((),), ("Least",) + paper[1:]):
            self.assertFalse(is_least(self.kept, value))
            for at in range(3):
                spoilt = paper[:at] + (value,) + paper[at + 1:]
                self.assertIs(is_least(self.kept, spoilt), spoilt == paper)
            self.assertFalse(is_least(self.kept, ("least", (value,) + paper[1], paper[2])))
            self.assertFalse(is_least(self.kept, ("least", paper[1], paper[2] + (value,))))

    def test_whens(self):
        kept = kept_of(LENT, "Lent")
        lend, show = (("lend", "result", -1), 1), (("show", "out", 0), 1)
        at_ask = (("call", "show", (None,)),)
        bad, raised = ((lend,), "b", at_ask), ((lend,), "b", at_ask + (("raise",),))
        goods = (((show,), tuple(Table(mended(kept, Mend(show))))),)
        for goals, when, bads, is_right in (
                (["a", "b"], "closed", (raised,), True), (["a", "b"], "closed", (bad,), False),
                (["a", "b"], "rest", (raised,), False), (["a", "b"], "ever", (raised,), False),
                (["b"], "rest", (raised,), True), (["b"], "rest", (bad,), False), (["b"], "ever", (bad,), True)):
            self.check(is_right, goods, bads, goals, when, kept)

    def test_spoilt_in_one_place_each(self):
        for seed in (1, 4, 9, 16, 25, 36):
            kept = made_kept(seed)
            if len(every_mend(kept)) > MOST_MENDS:
                continue
            paper = least_paper(kept)
            self.assertTrue(is_least(kept, paper))
            _, goods, bads = paper
            self.assertTrue(is_least(kept, ("least", goods[::-1] * 2, bads[::-1] * 2)))
            for at in range(len(goods)):
                self.assertFalse(is_least(kept, ("least", goods[:at] + goods[at + 1:], bads)))
            for at in range(len(bads)):
                self.assertFalse(is_least(kept, ("least", goods, bads[:at] + bads[at + 1:])))
                pairs, goal, history = bads[at]
                spoilt = (pairs, goal, history[:-1])
                self.assertFalse(is_least(kept, ("least", goods, bads[:at] + (spoilt,) + bads[at + 1:])))


if __name__ == "__main__":
    unittest.main()
