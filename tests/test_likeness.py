"""Which classes are alike, the papers that show it, and mends in groups (points 32 and 36)."""

import random
import unittest

from handedcopies.errors import NoDoor, TooMany, UnlikeFaces
from handedcopies.joints import first_joint, is_joint, joint_steps
from handedcopies.likeness import Likeness, compare, is_likeness, like_groups
from handedcopies.mends import Mend, mended
from handedcopies.running import Run
from tests.couples import Pair, made_pair, some_mend
from tests.samples import SHELF, STRANGE_VALUES, kept_of
from tests.test_joints import FIRST_SHELF, VIEWER
from tests.test_mends import GET, PUT

SHELF_JOINTS = [
    (False, (-1, -3, -3), (-1, 1, 2), ()), (False, (-1, -3, -1, 0), (-1, 1, -1, 0), ()),
    (False, (-1, -3, 1), (-1, 1, 1), ()), (False, (-1, -1, 0, -3), (-1, -1, 0, 2), ()), FIRST_SHELF]


def accounts(kept, history):
    """The accounts behind each deed of a history."""
    run, found = Run(kept), []
    for deed in history:
        run.do(deed)
        found.append(run.account())
    return found


def parts(one, other, history):
    """Whether a history parts two kepts, as point 32 says."""
    first, second = accounts(one, history), accounts(other, history)
    return first[:-1] == second[:-1] and first[-1:] != second[-1:]


def joints_of(one, other):
    """All joint worlds that calm trials lead to, with the first one, from labels that no trial parts."""
    found = [first_joint(one, other)]
    for joint in found:
        for leads in joint_steps(one, other, joint).values():
            found += [lead for lead in leads if lead not in found]
    return sorted(found)


class CompareTests(unittest.TestCase):
    def check_alike(self, one, other):
        with self.subTest(one=one.library.text, other=other.library.text):
            likeness = compare(one, other)
            self.assertIsInstance(likeness, Likeness)
            self.assertEqual((bool(likeness), len(likeness)), (True, 0))
            self.assertEqual(likeness.paper, ("alike", tuple(joints_of(one, other))))
            self.assertIs(is_likeness(one, other, likeness.paper), True)
            self.assertEqual(compare(one=one, other=other, most=1000).paper, likeness.paper)
            return likeness

    def check_parted(self, one, other, calls):
        with self.subTest(one=one.library.text, other=other.library.text):
            likeness = compare(one, other)
            word, history = likeness.paper
            self.assertEqual((bool(likeness), len(likeness), word), (False, calls, "parted"))
            self.assertEqual(sum(deed[0] == "call" for deed in history), calls)
            self.assertTrue(parts(one, other, history), history)
            self.assertIs(is_likeness(one, other, likeness.paper), True)
            self.assertEqual(compare(one, other).paper, likeness.paper)
            return likeness

    def check(self, one_rows, other_rows, calls, parameters="", fields="a: [.]", more=""):
        """Compares two classes with a method of these rows; calls is None if they are alike."""
        lines = fields.split("; ") + more.split("|") * bool(more) + [f"def go({parameters}):"]
        kepts = []
        for rows in (one_rows, other_rows):
            below = lines + [f"    {row}" for row in rows.split("; ")]
            kepts.append(kept_of("\n".join(["class A:"] + [f"    {line}" for line in below]), "A"))
        for one, other in (kepts, kepts[::-1]):
            self.check_alike(one, other) if calls is None else self.check_parted(one, other, calls)

    def test_a_class_with_itself(self):
        kept = kept_of(SHELF, "Shelf")
        self.assertEqual(self.check_alike(kept, kept).paper, ("alike", tuple(SHELF_JOINTS)))
        self.check_alike(kept_of(VIEWER, "A"), kept_of(VIEWER, "A"))
        self.check_alike(kept_of("class A:", "A"), kept_of("class B:\n    a: [.]", "B"))

    def test_other_words(self):
        other = SHELF.replace("rows", "lists").replace("row", "it").replace("at", "here").replace("Shelf", "Other")
        self.check_alike(kept_of(SHELF, "Shelf"), kept_of(other, "Other"))
        self.check_alike(kept_of(SHELF, "Guarded"), kept_of(other, "Guarded"))

    def test_a_family_written_out(self):
        text = "\n".join([
            "class Out:", "    rows: [[.], [.]]", "    def put(at: 2, row: [.]):", "        self.rows[at] = row",
            "    def get(at: 2):", "        x = self.rows[at]", "        return copy(x, 1)"])
        guarded, out = kept_of(SHELF, "Guarded"), kept_of(text, "Out")
        self.check_alike(guarded, out)
        self.check_alike(out, guarded)
        self.check_parted(kept_of(SHELF, "Shelf"), out, 2)

    def test_mended_classes(self):
        kept = kept_of(SHELF, "Shelf")
        self.check_alike(kept, mended(kept, Mend()))
        self.check_parted(kept, mended(kept, Mend((GET, 1))), 2)
        self.check_parted(mended(kept, Mend((GET, 1))), kept, 2)
        self.check_parted(kept, mended(kept, Mend((PUT, 1))), 2)
        self.check_parted(mended(kept, Mend((GET, 1))), mended(kept, Mend((GET, 1), (PUT, 1))), 2)
        self.check_alike(mended(kept, Mend((GET, 1))), kept_of(SHELF, "Guarded"))
        self.check_alike(mended(kept_of(SHELF, "Guarded"), Mend((GET, 1))), kept_of(SHELF, "Guarded"))

    def test_parted_by_one_call(self):
        self.check("return self.a", "return new [.]", 2)
        self.check("p[0] = p[0]", "p[0] = new .", 1, "p: [.]")
        self.check("return p", "return copy(p)", 1, "p: [.]")
        self.check("return p", "return q", 1, "p: [.], q: [.]")
        self.check("return p[0]", "return q[0]", 1, "p: [.], q: [.]")
        self.check("return p[0]", "return p[1]", 1, "p: [[.], [.]]")
        self.check("return view p", "return view copy(p)", 1, "p: [.]")
        self.check("f(new .)", "x = new .", 1, "f: . -> none")
        self.check("f(new .); f(new .)", "f(new .)", 1, "f: . -> none")
        self.check("f(p); return p", "f(copy(p)); return p", 1, "f: [.] -> none, p: [.]")
        self.check("f(new .); g(new .)", "g(new .); f(new .)", 1, "f: . -> none, g: . -> none")
        self.check("x = f(new .); return x", "x = f(new .); return copy(x)", 1, "f: . -> [.]")
        self.check("x = f(new .); return x", "x = f(new .); return f(new .)", 1, "f: . -> .")
        self.check("x = p[0]; f(new .); return x", "f(new .); return p[0]", 1, "p: [.], f: . -> none")

    def test_parted_by_several_calls(self):
        more = "def set(v: .):|    self.a[0] = v|def get():|    return self.b[0]"
        self.check("self.b = self.a", "self.b = copy(self.a)", 3, "", "a: [.]; b: [.]", more)
        more = "def one():|    self.b = self.a|def two():|    self.a = new [.]|def set(v: .):|    self.b[0] = v"
        self.check("return self.a[0]", "return new .", 3, "", "a: [.]; b: [.]", more)
        more = "def one():|    self.c = self.b|def two():|    self.b = self.a|def set(v: .):|    self.a = v"
        self.check("return self.c", "return new .", 4, "", "a: .; b: .; c: .", more)

    def test_parted_by_a_put(self):
        rows = ("p[0] = self.a; p[0] = self.b", "p[0] = self.b; p[0] = self.a")
        self.check(*rows, None, "p: [[.]]", "a: [.]; b: [.]")
        self.check(*rows, 2, "p: [[.]]", "a: [.]; b: [.]", "def get():|    return self.a")
        rows = ("return view self.a", "return view copy(self.a)")
        self.check(*rows, 2, "", "a: [.]", "def get():|    return self.a")
        self.check(*rows, 2, "", "a: [.]", "def keep(p: [.]):|    self.a = p")
        self.check(rows[0], "return view copy(self.a, 1)", 2, "", "a: [[.]]", "def keep(p: [[.]]):|    self.a = p")
        self.check(*rows, 2, "", "a: [.]", "def set(v: .):|    self.a[0] = v")

    def test_items_that_a_row_sets_again(self):
        get, link = "def get():|    return self.a", "def get():|    self.a[0] = self.b|    return self.a"
        self.check("self.a[0] = new .", "x = new .", 2, "", "a: [.]", get)
        self.check("self.a[0] = self.b", "x = new .", 2, "", "a: [[.]]; b: [.]", link)
        self.check("self.a[0] = self.b", "self.a[0] = self.b", None, "", "a: [[.]]; b: [.]", link)
        self.check("f(new .); self.a[0] = new .", "f(new .)", 2, "f: . -> none", "a: [.]", get)

    def test_parted_after_several_asks(self):
        lend = "def lend(f: . -> none, v: .):|    f(new .)|    self.a[0] = v|    f(new .)|    self.a[0] = new ."
        self.check("return self.a[0]", "return new .", 2, "", "a: [.]", lend)
        lend = "def lend(f: [.] -> none):|    f(self.a)|    f(new [.])|    self.a = new [.]"
        self.check("return self.a", "return copy(self.a)", 2, "", "a: [.]", lend)
        rows = "x = f(new .); y = f(new .); return {}"
        self.check(rows.format("x"), rows.format("y"), 1, "f: . -> [.]", "v: .")

    def test_parted_after_an_exit_or_a_raise(self):
        more = ("enter begin(f: . -> none):|    self.a = new [.]|    f(new .)|    self.a = copy(self.b)|exit end():|"
                "    self.b = self.a")
        self.check("return self.a", "x = new [.]; self.a = x; return x", 2, "", "a: [.]; b: [.]", more)
        more = "def lend(f: . -> none, v: .):|    self.a[0] = v|    f(new .)|    self.a[0] = new ."
        self.check("return self.a[0]", "return new .", 2, "", "a: [.]", more)
        more = "enter lend(v: .):|    self.a[0] = v|exit back():|    self.a[0] = new ."
        self.check("return self.a[0]", "return new .", 2, "", "a: [.]", more)
        more = "exit lend(v: .):|    self.a[0] = v|enter back():|    self.a[0] = new ."
        self.check("return self.a[0]", "return new .", 3, "", "a: [.]", more)
        more = "exit lend(v: .):|    self.a[0] = v"
        self.check("return self.a[0]", "return new .", None, "", "a: [.]", more)

    def test_what_does_not_part(self):
        get = "def get():|    return self.a"
        self.check("x = self.a; self.a = new [.]; self.a = x", "x = new .", None, "", "a: [.]", get)
        self.check("x = p[0]; p[0] = new .; p[0] = x", "x = new .", None, "p: [.]")
        self.check("p[0] = p[0]", "x = p", None, "p: [[.]]")
        set_and_read = "def set(v: .):|    self.a[0] = v|def get():|    return self.a[0]"
        self.check("self.a = copy(self.a)", "x = new .", None, "", "a: [.]", set_and_read)
        self.check("self.a = copy(self.a)", "x = new .", 3, "", "a: [.]", get)
        self.check("return view new [.]", "return view copy(self.a)", None)
        self.check("return new [.]", "return copy(self.a)", None)
        self.check("return new [.]", "return copy(self.a)", 2, "", "a: [.]", "def set(v: .):|    self.a[0] = v")

    def test_other_fields(self):
        one = "\n".join(["class A:", "    a: [.]", "    b: [.]", "    def set(v: .):", "        self.a[0] = v",
                         "        self.b[0] = v", "    def get():", "        return {}"])
        other = "class B:\n    x: .\n    def set(w: .):\n        self.x = w\n    def get():\n        return {}"
        for text in ("self.a[0]", "self.b[0]"):
            self.check_alike(kept_of(one.format(text), "A"), kept_of(other.format("self.x"), "B"))
        self.check_parted(kept_of(one.format("self.a[0]"), "A"), kept_of(other.format("new ."), "B"), 2)

    def test_results_are_new(self):
        kept = kept_of(SHELF, "Shelf")
        self.assertIsNot(compare(kept, kept), compare(kept, kept))
        self.assertNotEqual(compare(kept, kept), compare(kept, kept).paper)

    def test_by_chance(self):
        numbers = {True: 0, False: 0}
        for seed in range(200):
            one, other = made_pair(seed)
            try:
                likeness = compare(one, other, most=120)
            except TooMany:
                continue
            numbers[bool(likeness)] += 1
            if likeness:
                self.check_alike(one, other)
            else:
                self.check_parted(one, other, len(likeness))
            for at in range(4):
                pair = Pair(one, other, seed * 7 + at)
                for _ in range(30):
                    pair.step(puts_values=at == 0)
                    is_paper = is_likeness(one, other, ("parted", tuple(pair.deeds)))
                    self.assertIs(is_paper, all(pair.equal[:-1]) and not pair.equal[-1])
                    if not pair.are_equal():
                        self.assertFalse(likeness, (one.library.text, pair.deeds))
                        self.assertGreaterEqual(pair.first.calls, len(likeness), (one.library.text, pair.deeds))
                        break
        self.assertGreater(min(numbers.values()), 30)


class PaperTests(unittest.TestCase):
    def setUp(self):
        self.kept = kept_of(SHELF, "Shelf")
        self.shut = mended(self.kept, Mend.all_of(self.kept))
        self.history = (("make", "[.]"), ("call", "put", (0, 0)), ("call", "get", (0,)))

    def parted(self, is_right, history, one=None, other=None):
        with self.subTest(history=str(history)[:300]):
            self.assertIs(is_likeness(one or self.kept, other or self.shut, ("parted", history)), is_right)

    def alike(self, is_right, joints, one=None, other=None):
        with self.subTest(joints=str(joints)[:300]):
            self.assertIs(is_likeness(one or self.kept, other or self.kept, ("alike", joints)), is_right)

    def test_right_histories(self):
        self.parted(True, self.history)
        self.parted(True, self.history, self.shut, self.kept)
        self.parted(True, (("make", "[[.]]"), ("call", "get", (1,))) + (("make", "[.]"), ("call", "put", (0, 1)),
                                                                      ("call", "get", (0,))))
        self.parted(True, (("call", "get", (0,)), ("call", "get", (0,))))
        kept = kept_of(VIEWER, "A")
        copied = kept_of(VIEWER.replace("view self.one", "view copy(self.one)"), "A")
        deeds = (("call", "look", ()), ("call", "get", ()))
        self.parted(False, deeds, kept, copied)
        self.parted(True, deeds + (("put", 1, 0, None),), kept, copied)
        self.parted(True, deeds + (("make", "[.]"), ("put", 1, 0, None),), kept, copied)
        self.parted(False, deeds + (("make", "[.]"), ("put", 2, 0, None),), kept, copied)

    def test_spoilt_histories(self):
        history = self.history
        self.parted(False, ())
        self.parted(False, list(history))
        self.parted(False, history[:2])
        self.parted(False, history + (("make", "[.]"),))
        self.parted(False, history, self.kept, self.kept)
        self.parted(False, history, self.shut, self.shut)
        self.parted(False, history[1:])
        for at in range(3):
            self.parted(False, history[:at] + history[at + 1:])
            self.parted(False, history[:at] + (list(history[at]),) + history[at + 1:])
            for value in STRANGE_VALUES:
                self.parted(False, history[:at] + (value,) + history[at + 1:])
                self.parted(False, history[:at] + (value,) + history[at:])
        for spoilt in (("call", "get", (1,)), ("call", "get", (False,)), ("call", "get", [0]), ("call", "got", (0,)),
                       ("call", "get", (2,)), ("call", "get", ()), ("reply", None), ("raise",), ("put", 0, 0, None)):
            self.parted(False, history[:2] + (spoilt,))
            self.parted(False, history + (spoilt,))
        self.parted(False, (("make", "[.]"), ("call", "put", (0, 0)), ("call", "get", (0,)), ("call", "get", (0,))))

    def test_right_joints(self):
        joints = tuple(SHELF_JOINTS)
        self.alike(True, joints)
        self.alike(True, joints[::-1])
        self.alike(True, joints + joints)
        closed = tuple((is_open,) + joint[1:] for joint in joints for is_open in (True, False))
        self.alike(True, closed)
        kept = kept_of(VIEWER, "A")
        joints = compare(kept, kept).paper[1]
        self.assertEqual(len(joints), 5)
        self.alike(True, joints, kept, kept)
        self.alike(True, joints[2:] + joints[:3], kept, kept)

    def test_spoilt_joints(self):
        joints = tuple(SHELF_JOINTS)
        for at in range(5):
            self.alike(False, joints[:at] + joints[at + 1:])
            for value in STRANGE_VALUES + ((0,) + joints[at][1:], (True,) + joints[at][1:], joints[at][:3],
                                           list(joints[at]), joints[at] + ((),), joints[at][:3] + ([],),
                                           joints[at][:2] + (list(joints[at][2]), ())):
                self.alike(False, joints[:at] + (value,) + joints[at + 1:])
                if value != (True,) + joints[at][1:] or at != 0:
                    self.alike(False, joints[:at] + (value,) + joints[at:])
        self.alike(False, ())
        self.alike(False, list(joints))
        self.alike(False, joints, self.kept, self.shut)
        self.alike(False, joints, self.shut, self.shut)
        # From these joint worlds some trial parts the kepts, although no history leads there.
        for wrong in ((False, (-1, -1, 0, -1, 0), (-1, -1, 1, -1, 0), ()), (False, (-1, -3, -3), (-1, 2, 1), ()),
                      (False, (-1, -3, -3), (-1, 1, -3), ())):
            self.alike(False, joints + (wrong,))

    def test_joints_of_views(self):
        kept = kept_of(VIEWER, "A")
        joints = compare(kept, kept).paper[1]
        for at in range(5):
            self.alike(False, joints[:at] + joints[at + 1:], kept, kept)
        for wrong in ((False, (-1, 0), (-1, 0), ((-1, 1),)), (False, (-1, 0), (-1, 0), ((-1, 1), (0, 1))),
                      (False, (-1, 1), (-1, 2), ())):
            self.assertTrue(is_joint(kept, kept, wrong))
            self.alike(False, joints + (wrong,), kept, kept)

    def test_any_values(self):
        paper = compare(self.kept, self.kept).paper
        self.assertIs(is_likeness(one=self.kept, other=self.kept, thing=paper), True)
        for value in STRANGE_VALUES + (list(paper), paper + ((),), paper[:1], ("parted", paper[1]), ("Alike", paper[1]),
                                       paper[::-1], ("alike", self.history), ("never", ())):
            self.assertIs(is_likeness(self.kept, self.kept, value), False)
            self.assertIs(is_likeness(self.kept, self.kept, ("alike", value)), False)
            self.assertIs(is_likeness(self.kept, self.kept, ("parted", value)), False)
            self.assertIs(is_likeness(self.kept, self.kept, (value, paper[1])), False)
            self.assertIs(is_likeness(self.kept, self.shut, (value, self.history)), False)


class ErrorTests(unittest.TestCase):
    def test_unlike_faces(self):
        lines = ["class A:", "    a: [[.], [.], [.]]", "    def b(p: [[.], [.]]):", "    def c(p: [.]):"]
        one, other = kept_of("\n".join(lines), "A"), kept_of("\n".join(lines[:3]), "A")
        for ask in (lambda: compare(one, other), lambda: compare(other, one), lambda: is_likeness(one, other, None)):
            with self.assertRaises(UnlikeFaces) as caught:
                ask()
            self.assertEqual(caught.exception.method, "c")
        for ask in (lambda: compare(one, one), lambda: compare(one, one, most=1), lambda: is_likeness(one, one, None)):
            with self.assertRaises(TooMany) as caught:
                ask()
            self.assertEqual(caught.exception.what, "lists")

    def test_joints_at_the_bound(self):
        kept = kept_of(SHELF, "Shelf")
        shut = mended(kept, Mend((GET, 1)))
        for one, other in ((kept, kept), (kept, shut), (shut, shut)):
            most = 1
            while True:
                try:
                    likeness = compare(one, other, most=most)
                    break
                except TooMany as error:
                    self.assertEqual(error.what, "joints")
                    most += 1
            if likeness:
                self.assertEqual(len(likeness.paper[1]), most)
            self.assertGreater(most, 3)
        none = kept_of("class A:\n    a: [.]", "A")
        self.assertEqual(compare(none, none, most=1).paper, ("alike", (first_joint(none, none),)))
        with self.assertRaises(TooMany):
            compare(kept_of(VIEWER, "A"), kept_of(VIEWER, "A"), most=4)

    def test_too_many_joints_although_a_history_is_short(self):
        text = SHELF + "\n    def go(v: .):\n        return v"
        one = kept_of(text, "Guarded")
        other = kept_of(text.replace("return v", "return new ."), "Guarded")
        most = len(compare(one, one).paper[1])
        self.assertGreater(most, 4)
        likeness = compare(one, other, most=most)
        self.assertEqual((bool(likeness), len(likeness)), (False, 1))
        with self.assertRaises(TooMany) as caught:
            compare(one, other, most=most - 1)
        self.assertEqual(caught.exception.what, "joints")
        self.assertTrue(is_likeness(one, other, ("parted", (("call", "go", (None,)),))))

    def test_more_than_the_default_bound(self):
        lines = ["class A:"] + [f"    {word}: [.]" for word in "abcd"] + [
            "    def set(p: [.], q: [.]):", "        self.a = p", "        self.b = q", "    def turn():",
            "        x = self.a", "        self.a = self.b", "        self.b = self.c", "        self.c = self.d",
            "        self.d = x", "    def look():", "        return view self.a", "    def put(v: .):",
            "        self.c[0] = v"]
        kept = kept_of("\n".join(lines), "A")
        with self.assertRaises(TooMany) as caught:
            compare(kept, kept)
        self.assertEqual(caught.exception.what, "joints")


class GroupTests(unittest.TestCase):
    def setUp(self):
        self.kept = kept_of(SHELF, "Shelf")

    def test_groups(self):
        get, put, both = Mend((GET, 1)), Mend((PUT, 1)), Mend((GET, 1), (PUT, 1))
        self.assertEqual(like_groups(self.kept), [])
        self.assertEqual(like_groups(self.kept, get), [[0]])
        self.assertEqual(like_groups(self.kept, get, put, both, Mend()), [[0], [1], [2], [3]])
        self.assertEqual(like_groups(self.kept, get, put, get, Mend(), put, get), [[0, 2, 5], [1, 4], [3]])
        guarded = kept_of(SHELF, "Guarded")
        self.assertEqual(like_groups(guarded, Mend(), put, get, both), [[0, 2], [1, 3]])
        taken = kept_of(SHELF + "\nclass Mended:", "Guarded")
        self.assertEqual(like_groups(taken, both, Mend(), get, put, most=400), [[0, 3], [1, 2]])

    def test_as_compare(self):
        rng = random.Random(2)
        done = 0
        for seed in range(60):
            kept = made_pair(seed)[0]
            mends = [some_mend(rng, kept) for _ in range(3)]
            kepts = [mended(kept, mend) for mend in mends]
            try:
                groups = like_groups(kept, *mends, most=60)
            except TooMany:
                continue
            done += len(groups) > 1
            self.assertEqual(sorted(at for group in groups for at in group), [0, 1, 2])
            self.assertEqual(groups, sorted(sorted(group) for group in groups))
            for one in range(3):
                for other in range(3):
                    together = any(one in group and other in group for group in groups)
                    self.assertEqual(bool(compare(kepts[one], kepts[other])), together)
        self.assertGreater(done, 8)

    def raises(self, error, kept, *mends, most=400):
        with self.assertRaises(error) as caught:
            like_groups(kept, *mends, most=most)
        return caught.exception

    def test_errors(self):
        wrong = Mend((PUT, 2))
        self.assertEqual(self.raises(TooMany, self.kept, *[wrong] * 7).what, "mends")
        self.assertEqual(len(like_groups(self.kept, *[Mend()] * 6)[0]), 6)
        self.assertEqual(self.raises(NoDoor, self.kept, Mend(), wrong, Mend((GET, 3))).door, PUT)
        eight = kept_of(SHELF + "\n" + "\n".join(f"class {name}:" for name in "ABCDEF"), "Shelf")
        self.assertEqual(self.raises(NoDoor, eight, Mend(), wrong).door, PUT)
        self.assertEqual(self.raises(TooMany, eight, Mend()).what, "classes")
        self.assertEqual(like_groups(eight), [])

    def test_lists_and_joints(self):
        many = kept_of("\n".join([
            "class A:", "    a: [[.], [.], [.]]", "    def b(p: [[.], [.]]):", "    def c(p: [.]):",
            "        self.a[0] = p"]), "A")
        self.assertEqual(like_groups(many, Mend.all_of(many)), [[0]])
        self.assertEqual(self.raises(TooMany, many, Mend(), Mend(), most=1).what, "lists")
        self.assertEqual(self.raises(TooMany, self.kept, Mend(), Mend(), most=4).what, "joints")
        self.assertEqual(like_groups(self.kept, Mend(), Mend(), most=5), [[0, 1]])
        self.assertEqual(like_groups(self.kept, Mend(), most=1), [[0]])
        guarded = kept_of(SHELF, "Guarded")
        sizes = [len(compare(mended(guarded, mend), mended(guarded, mend), most=400).paper[1])
                 for mend in (Mend((PUT, 1)), Mend())]
        self.assertNotEqual(sizes[0], sizes[1])
        mends = [Mend((PUT, 1))] * 2 if sizes[0] > sizes[1] else [Mend()] * 2
        self.assertEqual(self.raises(TooMany, guarded, *mends, most=max(sizes) - 1).what, "joints")
        self.assertEqual(like_groups(guarded, *mends, most=max(sizes)), [[0, 1]])


if __name__ == "__main__":
    unittest.main()
