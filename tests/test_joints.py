"""Joint worlds of two runs, and where the trials lead from them (points 33 to 36)."""

import itertools
import unittest

from handedcopies.errors import BadWorld, Busy, TooMany, UnlikeFaces
from handedcopies.joints import MOST_JOINTS, first_joint, is_joint, joint_of, joint_steps
from handedcopies.mends import Mend, mended
from handedcopies.running import Run
from handedcopies.worlds import labels_of
from tests.couples import Pair, made_pair
from tests.pythons import History
from tests.samples import SHELF, STRANGE_VALUES, kept_of

VIEWER = """class A:
    one: [.]
    def look():
        return view self.one
    def set(v: .):
        self.one[0] = v
    def get():
        return self.one
    def drop():
        self.one = new [.]"""
FIRST_SHELF = (False, (-1, -1, 0, -1, 0), (-1, -1, 0, -1, 0), ())
SHELF_ONE = (False, (-1, -3, -1, 0), (-1, 1, -1, 0), ())


def both(one, other, *deeds):
    """Two runs behind the same deeds."""
    runs = Run(one), Run(other)
    for run in runs:
        run.follow(*deeds)
    return runs


def joint_in_python(first, second):
    """The joint world of two histories in Python, as point 33 goes through them; None if a put could part them."""
    shown = list(zip(first.viewed, second.viewed))
    hands = [[history.numbers.get(id(box)) for history, box in zip((first, second), pair)] for pair in shown]
    if any(one != other for one, other in hands):
        return None
    met, values, sides = [], [0], []

    def number_of(history, value):
        hand = history.numbers.get(id(value))
        for at, (other_hand, other) in enumerate(met):
            if other is value or (hand is not None and hand == other_hand):
                return at
        return None

    def go_through(history, value, codes):
        if not isinstance(value, list):
            values.extend([value] if value not in values else [])
            codes.append(values.index(value))
        elif number_of(history, value) is not None:
            codes.append(number_of(history, value))
        else:
            met.append((history.numbers.get(id(value)), value))
            codes.append(-1 if met[-1][0] is None else -3)
            if met[-1][0] is None:
                for item in value:
                    go_through(history, item, codes)

    for history in (first, second):
        sides.append([])
        for name, _ in history.kept.fields:
            go_through(history, getattr(history.object, name), sides[-1])
    windows = set()
    for pair, (hand, _) in zip(shown, hands):
        numbers = [number_of(history, box) for history, box in zip((first, second), pair)]
        if hand is None and numbers != [None, None]:
            windows.add(tuple(-1 if number is None else number for number in numbers))
    return (first.is_open, tuple(sides[0]), tuple(sides[1]), tuple(sorted(windows)))


class FirstJointTests(unittest.TestCase):
    def test_examples(self):
        shelf, guarded = kept_of(SHELF, "Shelf"), kept_of(SHELF, "Guarded")
        self.assertEqual(first_joint(shelf, shelf), FIRST_SHELF)
        self.assertEqual(first_joint(one=shelf, other=guarded), FIRST_SHELF)
        one = kept_of("class A:\n    v: .\n    a: [[.], .]\n    w: .", "A")
        other = kept_of("class B:", "B")
        self.assertEqual(first_joint(one, other), (False, (0, -1, -1, 0, 0, 0), (), ()))
        self.assertEqual(first_joint(other, one), (False, (), (0, -1, -1, 0, 0, 0), ()))
        self.assertEqual(first_joint(other, other), (False, (), (), ()))

    def test_unlike_faces(self):
        lines = ["class A:", "    def b(i: 2):", "    def c(p: [.]):", "        return p", "    def d(f: . -> none):"]
        one = kept_of("\n".join(lines), "A")
        for change, method in (((1, "    def b(i: 3):"), "b"), ((1, "    enter b(i: 2):"), "b"),
                               ((1, "    def b():"), "b"), ((1, "    def b(v: .):"), "b"),
                               ((1, "    def a(i: 2):"), "a"), ((1, "    def bb(i: 2):"), "b"),
                               ((3, "        return view p"), "c"), ((3, "        p[0] = new ."), "c"),
                               ((3, "        return p[0]"), "c"), ((3, "        return new [[.]]"), "c"),
                               ((2, "    def c(p: [., .]):"), "c"), ((4, "    def d(f: . -> .):"), "d"),
                               ((4, "    def d(f: [.] -> none):"), "d"), ((4, "    exit d(f: . -> none):"), "d"),
                               ((4, "    def e(f: . -> none):"), "d")):
            changed = list(lines)
            changed[change[0]] = change[1]
            other = kept_of("\n".join(changed), "A")
            self.unlike(one, other, method)
            self.unlike(other, one, method)
        self.unlike(one, kept_of("class A:", "A"), "b")
        words = kept_of("\n".join(lines).replace("i: 2", "j: 2").replace("p", "q"), "A")
        self.assertEqual(first_joint(one, words), (False, (), (), ()))

    def unlike(self, one, other, method):
        for ask in (lambda: first_joint(one, other), lambda: is_joint(one, other, None),
                    lambda: joint_steps(one, other, None)):
            with self.assertRaises(UnlikeFaces) as caught:
                ask()
            self.assertEqual(caught.exception.method, method)


class JointOfTests(unittest.TestCase):
    def check(self, kept, deeds, expected, other=None):
        first, second = both(kept, other or kept, *deeds)
        self.assertEqual(first.account(), second.account())
        self.assertEqual(joint_of(first, second), expected)
        if expected is not None:
            self.assertIs(is_joint(kept, other or kept, expected), True)

    def test_lists(self):
        kept = kept_of(SHELF, "Shelf")
        get, put = ("call", "get", (0,)), ("call", "put", (1, 0))
        self.check(kept, (get,), SHELF_ONE)
        self.check(kept, (("make", "[.]"), put), (False, (-1, -1, 0, -3), (-1, -1, 0, 2), ()))
        self.check(kept, (get, put), (False, (-1, -3, 1), (-1, 1, 1), ()))
        self.check(kept, (("make", "[.]"), put, get), (False, (-1, -3, -3), (-1, 1, 2), ()))
        shut = mended(kept, Mend.all_of(kept))
        self.check(kept, (("make", "[.]"), put), (False, (-1, -1, 0, -3), (-1, -1, 0, -1, 1), ()), shut)
        self.check(shut, (("make", "[.]"), put), (False, (-1, -1, 0, -1, 1), (-1, -1, 0, -3), ()), kept)
        self.check(kept, (("make", "[.]"), put, ("put", 0, 0, None)),
                   (False, (-1, -1, 0, -3), (-1, -1, 0, -1, 1), ()), shut)

    def test_plain_values(self):
        kept = kept_of("class A:\n    v: .\n    a: [., .]\n    w: .\n    def set(p: ., q: .):\n        self.v = p\n"
                       "        self.a[0] = q\n        self.a[1] = p\n        self.w = self.a[0]", "A")
        self.check(kept, (("call", "set", (None, None)),), (False, (1, -1, 2, 1, 2), (1, -1, 2, 1, 2), ()))
        other = kept_of(kept.library.text.replace("self.w = ", "self.v = "), "A")
        self.check(kept, (("call", "set", (None, None)),), (False, (1, -1, 2, 1, 2), (2, -1, 2, 1, 0), ()), other)

    def test_windows(self):
        kept = kept_of(VIEWER, "A")
        look, setting = ("call", "look", ()), ("call", "set", (None,))
        get, drop = ("call", "get", ()), ("call", "drop", ())
        joined = (False, (-1, 1), (-1, 1), ((0, 1),))
        self.check(kept, (look, setting), joined)
        self.check(kept, (setting, look, look), joined)
        self.check(kept, (look, get), (False, (-3,), (0,), ()))
        self.check(kept, (get, look), (False, (-3,), (0,), ()))
        self.check(kept, (look, drop), (False, (-1, 0), (-1, 0), ()))
        for text in ("return view copy(self.one)", "return view new [.]"):
            other = kept_of(VIEWER.replace("return view self.one", text), "A")
            self.check(kept, (look,), (False, (-1, 0), (-1, 0), ((0, -1),)), other)
            self.check(other, (look,), (False, (-1, 0), (-1, 0), ((-1, 1),)), kept)
            self.check(kept, (look, get), None, other)
            self.check(other, (look, get), None, kept)
            self.check(kept, (get, look), None, other)

    def test_more_windows(self):
        lines = ["class A:", "    a: [.]", "    b: [.]", "    def look(i: 2):", "        return view self.a",
                 "    def swap():", "        x = self.a", "        self.a = self.b", "        self.b = x"]
        kept = kept_of("\n".join(lines), "A")
        one, two = ("call", "look", (0,)), ("call", "swap", ())
        self.check(kept, (one, two, one), (False, (-1, 0, -1, 0), (-1, 0, -1, 0), ((0, 2), (1, 3))))
        other = kept_of("\n".join(lines[:-3]), "A")
        self.check(kept, (one, two, one), (False, (-1, 0, -1, 0), (-1, 0, -1, 0), ((0, 2), (1, 2))), other)
        self.check(other, (one, two, one), (False, (-1, 0, -1, 0), (-1, 0, -1, 0), ((0, 2), (0, 3))), kept)

    def test_marks_and_busy(self):
        kept = kept_of("class A:\n    a: [.]\n    enter go(f: [.] -> .):\n        f(self.a)", "A")
        go = ("call", "go", (None,))
        self.check(kept, (go, ("reply", None)), (True, (-3,), (0,), ()))
        self.check(kept, (go, ("raise",)), (False, (-3,), (0,), ()))
        runs = both(kept, kept, go)
        for first, second in (runs, (runs[0], Run(kept)), (Run(kept), runs[0])):
            with self.assertRaises(Busy):
                joint_of(first=first, second=second)

    def test_as_in_python(self):
        parted = 0
        for seed in range(120):
            one, other = made_pair(seed)
            pair = Pair(one, other, seed)
            for _ in range(25):
                pair.step(puts_values=False)
                if not pair.are_equal():
                    break
                if pair.first.is_busy:
                    continue
                histories = [History(kept, pair.deeds) for kept in (one, other)]
                for history in histories:
                    history.play()
                expected = joint_in_python(*histories)
                parted += expected is None
                with self.subTest(text=one.library.text, deeds=pair.deeds):
                    self.assertEqual(joint_of(pair.first, pair.second), expected)
                    if expected is not None:
                        self.assertTrue(is_joint(one, other, expected))
        self.assertGreater(parted, 3)


def item_texts(shape):
    """The texts of the items of a list's shape with plain items and lists of plain items."""
    return [part + "]" * (part[0] == "[" and part[-1] != "]") for part in shape[1:-1].split(", ")]


class FormMaker:
    """All joint worlds of two classes with these field shapes, made from all objects with so many lists and values."""

    def __init__(self, one, other, held, views):
        self.sides = (one, other)
        self.found = set()
        shapes = sorted({text for fields in self.sides for text in fields} | {
            item for fields in self.sides for text in fields if text != "." for item in item_texts(text)} - {"."})
        self.names = []
        for owner, fields in enumerate(self.sides):
            for text in fields:
                for shape in [text] + (item_texts(text) if text != "." else []):
                    if shape != ".":
                        self.names.append((owner, shape, len(self.names)))
        self.names += [(2, shape, len(self.names) + at) for at, shape in enumerate(shapes * held) if shape != "."]
        self.views = views

    def choices(self, side, shape):
        """What can stand at a place of a side."""
        if shape == ".":
            return range(4)
        return [name for name in self.names if name[1] == shape and name[0] in (side, 2)]

    def all_forms(self):
        own = [name for name in self.names if name[0] != 2]
        rows = [list(itertools.product(*[self.choices(name[0], item) for item in item_texts(name[1])])) for name in own]
        for items in itertools.product(*rows):
            inside = dict(zip(own, items))
            for roots in itertools.product(*[self.choices(side, text) for side in (0, 1) for text in self.sides[side]]):
                self.write(inside, roots)
        return self.found

    def write(self, inside, roots):
        numbers, values, codes = {}, {0: 0}, ([], [])

        def add(value, found):
            if isinstance(value, int):
                found.append(values.setdefault(value, len(values)))
            elif value in numbers:
                found.append(numbers[value])
            else:
                numbers[value] = len(numbers)
                found.append(-3 if value[0] == 2 else -1)
                for item in inside.get(value, ()):
                    add(item, found)

        many = len(self.sides[0])
        for at, root in enumerate(roots):
            add(root, codes[at >= many])
        form = (tuple(codes[0]), tuple(codes[1]))
        self.found.add(form + ((),))
        pairs = []
        met = [[name for name in numbers if name[0] == side and all(
            isinstance(item, int) or item[0] == 2 for item in inside[name])] for side in (0, 1)]
        for first, second in itertools.product(met[0] + [None], met[1] + [None]):
            if first != second and (None in (first, second) or (
                    first[1] == second[1] and inside[first] == inside[second])):
                pairs.append((numbers.get(first, -1), numbers.get(second, -1)))
        for many in range(1, self.views + 1):
            for windows in itertools.combinations(sorted(pairs), many):
                self.found.add(form + (windows,))


class IsJointTests(unittest.TestCase):
    def kepts(self, *sides):
        return [kept_of("\n".join(["class A:"] + [f"    {word}: {text}" for word, text in zip("abc", side)]), "A")
                for side in sides]

    def test_exactly_the_codes_of_two_objects(self):
        for one, other in (((".",), (".", ".")), (("[.]",), ("[.]",)), (("[.]", "[.]"), ()), (("[.]",), (".", "[.]")),
                           (("[[.]]",), ("[.]",))):
            kepts = self.kepts(one, other)
            right = FormMaker(one, other, 3, 1).all_forms()
            places = [sum(text.count(".") + text.count("[") for text in fields) for fields in (one, other)]
            windows = [()] + [((a, b),) for a in range(-2, 3) for b in range(-2, 4)]
            for lengths in itertools.product(*[range(many + 1) for many in places]):
                for codes in itertools.product(range(-3, 4), repeat=sum(lengths)):
                    form = (codes[:lengths[0]], codes[lengths[0]:])
                    for pairs in windows if sum(lengths) < 5 or codes[0] == -1 else windows[:1]:
                        self.assertEqual(is_joint(*kepts, (True,) + form + (pairs,)), form + (pairs,) in right,
                                         (one, other, form, pairs))

    def test_right_forms(self):
        one, other = self.kepts(("[[.], .]", "[.]", "."), ("[.]", "[[.], .]"))
        for form in ((False, (-1, -1, 0, 0, -1, 0, 0), (-1, 0, -1, -1, 0, 0), ()),
                     (True, (-3, -3, 1), (1, 0), ()), (True, (-1, -3, 1, 1, 1), (1, -1, 1, 1), ()),
                     (True, (-1, -3, 1, 1, 1), (1, -1, 1, 1), ((0, 2),)),
                     (True, (-1, -3, 0, -3, 0), (-3, -1, 1, 0), ((0, 4),)),
                     (False, (-1, -1, 1, 2, 1, 3), (-1, 1, -1, -3, 4), ((-1, 3), (1, -1), (1, 2))),
                     (True, (-3, -1, 0, 1), (-1, 0, -3), ((-1, 2), (1, -1), (1, 2)))):
            self.assertIs(is_joint(one, other, form), True, form)

    def test_wrong_forms(self):
        one, other = self.kepts(("[[.], .]", "[.]", "."), ("[.]", "[[.], .]"))
        right = (True, (-1, -3, 1, 1, 1), (1, -1, 1, 1), ((0, 2),))
        self.assertTrue(is_joint(one, other, right))
        for at, values in ((0, (0, 1, None, "True")), (1, ((-1, -3, 1, 1), (-1, -3, 1, 1, 1, 0), (-1, -3, 2, 1, 1),
                            (-1, -2, 1, 1, 1), (-3, -3, 1, 1, 1), (-1, -3, 1, 0, 1), (-1, 0, 1, 1, 1),
                            (-1, -3, 1, 2, 1), (-1, -1, 0, 1, 1, 1), (-1, -3, True, 1, 1),
                            (-1, -3, -1, 1, 1), (-1, -3, 1, 1, 3))),
                           (2, ((0, -1, 1, 1), (2, -1, 1, 1), (1, 0, 1, 1), (1, -1, -1, 1), (1, -1, 1, 3), (1, -1, 1),
                                (1, -1, 1, 1, 0), (1, -3, 1, 1), (1, -1, 2, 1), (1, 0), (1, -1, True, 1))),
                           (3, (((0, 1),), ((1, 2),), ((1, 1),), ((0, 2), (0, 2)), ((0, 2), (-1, 2)), ((-1, -1),),
                                ((2, 0),),
                                ((0, True),), ((0, 2, 2),), ((0,),), (0, 2), [(0, 2)], ([0, 2],), ((0, 3),), ((-2, 2),),
                                ((0, -2),), ((0, 2), None), None, "", ((10 ** 29, 2),), ((False, 2),)))):
            for value in values:
                spoilt = right[:at] + (value,) + right[at + 1:]
                self.assertIs(is_joint(one, other, spoilt), False, spoilt)
        self.assertFalse(is_joint(one, other, right[:3]))
        self.assertFalse(is_joint(one, other, right + ((),)))
        self.assertFalse(is_joint(one, other, list(right)))
        self.assertFalse(is_joint(one, other, (True, list(right[1]), right[2], ())))
        self.assertFalse(is_joint(one, other, (True, right[1], list(right[2]), ())))

    def test_windows_need_equal_items(self):
        one, other = self.kepts(("[[.], .]",), ("[[.], .]",))
        for form, is_right in (((False, (-1, -3, 0), (-1, 1, 0), ((0, 2),)), True),
                               ((False, (-1, -3, 0), (-1, -3, 0), ((0, 2),)), False),
                               ((False, (-1, -3, 1), (-1, 1, 0), ((0, 2),)), False),
                               ((False, (-1, -3, 1), (-1, 1, 2), ((0, 2),)), False),
                               ((False, (-1, -3, 1), (-1, 1, 2), ((-1, 2), (0, -1))), True),
                               ((False, (-1, -1, 0, 1), (-1, -3, 1), ((0, -1),)), False),
                               ((False, (-1, -1, 0, 1), (-1, -3, 1), ((-1, 2),)), True),
                               ((False, (-1, -1, 0, 1), (-1, -3, 1), ((1, -1),)), True),
                               ((False, (-1, -1, 0, 1), (-1, -3, 1), ((1, 2),)), False),
                               ((False, (-1, -1, 0, 1), (-1, -1, 0, 1), ((0, 2),)), False),
                               ((False, (-1, -1, 0, 1), (-1, -1, 0, 1), ((1, 3),)), True)):
            self.assertIs(is_joint(one, other, form), is_right, form)

    def test_any_values(self):
        kept = kept_of(SHELF, "Shelf")
        self.assertIs(is_joint(one=kept, other=kept, thing=SHELF_ONE), True)
        for value in STRANGE_VALUES:
            self.assertIs(is_joint(kept, kept, value), False)
            for at in range(4):
                spoilt = SHELF_ONE[:at] + (value,) + SHELF_ONE[at + 1:]
                is_right = at == 0 and isinstance(value, bool) or at == 3 and value == () and isinstance(value, tuple)
                self.assertIs(is_joint(kept, kept, spoilt), is_right, at)
            for at in range(4):
                codes = SHELF_ONE[1][:at] + (value,) + SHELF_ONE[1][at + 1:]
                if type(value) is not int:
                    self.assertFalse(is_joint(kept, kept, (False, codes, SHELF_ONE[2], ())))
            self.assertFalse(is_joint(kept, kept, SHELF_ONE[:3] + ((value,),)))


class StepTests(unittest.TestCase):
    def test_shelf(self):
        kept = kept_of(SHELF, "Shelf")
        one, two = SHELF_ONE, (False, (-1, -1, 0, -3), (-1, -1, 0, 2), ())
        found = joint_steps(kept, kept, FIRST_SHELF)
        self.assertEqual(list(found.items()), [(("get", (0,), -1), [one]), (("get", (1,), -1), [two]),
                                               (("put", (0,), -1), [one]), (("put", (1,), -1), [two])])
        both_held, alike = (False, (-1, -3, -3), (-1, 1, 2), ()), (False, (-1, -3, 1), (-1, 1, 1), ())
        self.assertEqual(joint_steps(one=kept, other=kept, joint=one), {
            ("get", (0,), -1): [one], ("get", (1,), -1): [both_held],
            ("put", (0,), -1): [one], ("put", (1,), -1): [both_held, alike]})

    def test_parted(self):
        kept = kept_of(SHELF, "Shelf")
        shut = mended(kept, Mend.all_of(kept))
        self.assertEqual(joint_steps(kept, shut, FIRST_SHELF)["get", (0,), -1],
                         [(False, (-1, -3, -1, 0), (-1, -1, 0, -1, 0), ())])
        found = joint_steps(kept, shut, (False, (-1, -3, -1, 0), (-1, -1, 1, -1, 0), ()))
        self.assertIsNone(found["get", (0,), -1])
        self.assertEqual(found["get", (1,), -1], [(False, (-1, -3, -3), (-1, -1, 1, -1, 0), ())])

    def test_marks_and_labels(self):
        text = "class A:\n    enter go(f: . -> .):\n        f(new .)\n{}    exit end():\n    def any(i: 2):"
        one, other = kept_of(text.format(""), "A"), kept_of(text.format("        f(new .)\n"), "A")
        closed, opened = (False, (), (), ()), (True, (), (), ())
        rest = {("any", (0,), -1): [closed], ("any", (1,), -1): [closed]}
        for pair in ((one, other), (other, one)):
            found = joint_steps(*pair, closed)
            self.assertEqual(found, rest | {("go", (), -1): None, ("go", (), 0): [closed], ("go", (), 1): None})
            self.assertEqual(list(found), sorted(found))
        self.assertEqual(joint_steps(one, one, closed), rest | {("go", (), -1): [opened], ("go", (), 0): [closed]})
        self.assertEqual(joint_steps(one, other, opened), {
            ("any", (0,), -1): [opened], ("any", (1,), -1): [opened], ("end", (), -1): [closed]})
        self.assertEqual(list(joint_steps(other, other, closed)),
                         [label for label in labels_of(other) if label[0] != "end"])

    def check(self, rows, other_rows, parameters, expected, fields="a: [.]", joint=None, label=("go", (), -1)):
        """The steps of a call of two methods with these rows."""
        lines = ["class A:"] + [f"    {field}" for field in fields.split("; ")] + [f"    def go({parameters}):"]
        kepts = [kept_of("\n".join(lines + [f"        {row}" for row in part.split("; ")]), "A")
                 for part in (rows, other_rows)]
        found = joint_steps(*kepts, joint or first_joint(*kepts))
        self.assertEqual(found[label], expected, (rows, other_rows))

    def test_a_list_passed_twice(self):
        rows = "self.a = p; self.b = q"
        states = [(False, (-3, -3), (0, 1), ()), (False, (-3, 0), (0, 0), ())]
        self.check(rows, rows, "p: [.], q: [.]", states, "a: [.]; b: [.]")
        states = [(False, (-3, -3), (1, 0), ()), (False, (-3, 0), (0, 0), ())]
        self.check(rows, "self.a = q; self.b = p", "p: [.], q: [.]", states, "a: [.]; b: [.]")

    def test_three_lists_passed(self):
        rows = "self.a = p; self.b = q; self.c = r"
        states = [(False, codes, lists, ()) for codes, lists in (
            ((-3, -3, -3), (0, 1, 2)), ((-3, -3, 0), (0, 1, 0)), ((-3, -3, 1), (0, 1, 1)), ((-3, 0, -3), (0, 0, 1)),
            ((-3, 0, 0), (0, 0, 0)))]
        self.check(rows, rows, "p: [.], q: [.], r: [.]", states, "a: [.]; b: [.]; c: [.]")

    def test_items_that_are_read(self):
        joint = (False, (-3, -1, 0), (0, -1, 0), ())
        fields = "a: [[.], .]; b: [.]"
        self.check("self.b = self.a[0]", "self.b = self.a[0]", "", [(False, (-3, -3), (0, 1), ())], fields, joint)
        self.check("self.b = self.a[0]", "self.b = copy(self.a[0])", "", [(False, (-3, -3), (0, -1, 1), ())],
                   fields, joint)
        self.check("self.b[0] = self.a[1]", "self.b[0] = self.a[1]", "", [(False, (-3, -1, 1), (0, -1, 1), ())],
                   fields, joint)
        # An item may be a list that is passed, and be the same at two places.
        rows = "self.b = self.a[0]; self.c = p"
        states = [(False, (-3, -3, -3), (0, 1, 2), ()), (False, (-3, -3, 1), (0, 1, 1), ())]
        joint = (False, (-3, -1, 0, -1, 0), (0, -1, 0, -1, 0), ())
        self.check(rows, rows, "p: [.]", states, "a: [[.]]; b: [.]; c: [.]", joint)

    def test_items_that_are_set(self):
        held = (False, (-3,), (0,), ())
        self.check("self.a[0] = new .", "self.a[0] = new .", "", [held], joint=held)
        self.check("self.a[0] = new .", "x = new .", "", None, joint=held)
        self.check("x = new .", "self.a[0] = new .", "", None, joint=held)
        self.check("self.a[0] = self.a[0]", "x = new .", "", [held], joint=held)
        self.check("x = self.a[0]; self.a[0] = new .; self.a[0] = x", "x = new .", "", [held], joint=held)
        self.check("self.a[0] = v", "self.a[0] = new .", "v: .", None, joint=held)
        deep = (False, (-3,), (0,), ())
        self.check("self.a[0] = self.a[0]", "x = new .", "", [deep], "a: [[.]]", deep)
        self.check("self.a[0] = new [.]", "self.a[0] = new [.]", "", [deep], "a: [[.]]", deep)
        self.check("self.a[0] = new [.]", "x = new .", "", None, "a: [[.]]", deep)
        self.check("self.a[0] = p", "x = self.a[0]; self.a[0] = p", "p: [.]", [deep], "a: [[.]]", deep)
        self.check("self.a[0] = p", "x = self.a[0]", "p: [.]", None, "a: [[.]]", deep)

    def test_which_list_came_to_be_held_first(self):
        joint = (False, (-3, -1, 0, -1, 1), (0, -1, 0, -1, 1), ())
        rows = ("self.a[0] = self.b; self.a[0] = self.c", "self.a[0] = self.c; self.a[0] = self.b")
        fields = "a: [[.]]; b: [.]; c: [.]"
        self.check(rows[0], rows[0], "", [(False, (-3, -3, -3), (0, 1, 2), ())], fields, joint)
        self.check(rows[0], rows[1], "", None, fields, joint)
        # Both have blanks, but what stands in the held list at the end is the one that came second, or first.
        joint = (False, (-3, -1, 0, -1, 0), (0, -1, 0, -1, 0), ())
        self.check(rows[0], rows[1], "", [(False, (-3, -3, -3), (0, 2, 1), ())], fields, joint)
        self.check(rows[0] + "; self.a[0] = self.b", rows[1], "", None, fields, joint)

    def test_views(self):
        first = (False, (-1, 0), (-1, 0), ())
        look, joined = "return view self.a", (False, (-1, 0), (-1, 0), ((0, 1),))
        self.check(look, look, "", [joined])
        self.check(look, "return view copy(self.a)", "", [(False, (-1, 0), (-1, 0), ((0, -1),))])
        self.check(look, look, "", None, joint=(False, (-1, 0), (-1, 1), ()))
        self.check(look, look, "", None, joint=(False, (-3,), (-1, 0), ()))
        self.check(look, look, "", [(False, (-3,), (0,), ())], joint=(False, (-3,), (0,), ()))
        self.check(look, look, "", None, joint=(False, (-3,), (-3,), ()))
        held = (False, (-3,), (0,), ())
        self.check("self.a[0] = self.a[0]; return view self.a", look, "", [held], joint=held)
        self.check(look, "x = self.a[0]; self.a[0] = new .; self.a[0] = x; return view self.a", "", [held], joint=held)
        self.check("self.a[0] = new .; return view self.a", look, "", None, joint=held)
        self.check("self.a[0] = v", "self.a[0] = v", "v: .", [(False, (-1, 1), (-1, 1), ((0, 1),))], joint=joined)
        self.check("self.a[0] = v", "x = v", "v: .", [(False, (-1, 1), (-1, 0), ())], joint=first)
        self.check("self.a[0] = v", "x = v", "v: .", None, joint=joined)
        self.check("self.a[0] = v", "self.a = copy(self.a); self.a[0] = v", "v: .", None, joint=joined)
        self.check("x = v; self.a = copy(self.a)", "x = v", "v: .", [(False, (-1, 0), (-1, 0), ((-1, 1),))],
                   joint=joined)

    def test_a_view_that_shows_a_list_that_is_no_longer_inside(self):
        gone, joined = (False, (-1, 0), (-1, 0), ((0, -1),)), (False, (-1, 0), (-1, 0), ((0, 1),))
        self.check("x = self.a", "x = self.a", "", [gone], joint=gone)
        self.check("self.a[0] = v", "self.a[0] = v", "v: .", None, joint=gone)
        self.check("self.a[0] = v; self.a[0] = new .", "self.a[0] = v", "v: .", [(False, (-1, 0), (-1, 1), ((0, -1),))],
                   joint=gone)
        self.check("self.a[0] = v; self.a[0] = new .", "x = v", "v: .", [gone], joint=gone)
        self.check("return self.a", "return self.a", "", None, joint=gone)
        self.check("return self.a", "return self.a", "", [(False, (-3,), (0,), ())], joint=joined)
        self.check("self.a = new [.]", "self.a = new [.]", "", [(False, (-1, 0), (-1, 0), ())], joint=gone)
        # The items of a view that shows no inside list are those of its opposite.
        deep = (False, (-1, -3, 1), (-1, -3, 0), ((0, -1),))
        fields = "a: [[.], .]"
        self.check("self.a[0] = self.a[0]", "x = self.a[0]", "", [deep], fields, deep)
        self.check("self.a[1] = self.a[1]", "x = self.a[0]", "", [deep], fields, deep)
        self.check("self.a[0] = new [.]", "x = new .", "", None, fields, deep)
        self.check("self.a[1] = new .", "x = new .", "", None, fields, deep)
        self.check("self.a = new [[.], .]", "x = new .", "", [(False, (-1, -1, 0, 0), (-1, -3, 0), ())], fields, deep)

    def test_asks(self):
        joint = (False, (-1, 0), (-1, 0), ())
        held = (False, (-3,), (0,), ())
        self.check("self.a = f(new .)", "self.a = f(new .)", "f: . -> [.]", [held], "a: [.]", joint)
        self.check("self.a = f(new .)", "x = f(new .)", "f: . -> [.]", [(False, (-3,), (-1, 0), ())], "a: [.]", joint)
        # What is read again behind an ask may have been changed.
        rows = "self.v = self.a[0]; f(new .); self.w = self.a[0]"
        self.check(rows, rows, "f: . -> none", [(False, (-3, 1, 2), (0, 1, 2), ())], "a: [.]; v: .; w: .",
                   (False, (-3, 0, 0), (0, 0, 0), ()))
        self.check(rows, rows, "f: . -> none", [(False, (-3, 1, 0), (0, 1, 0), ())], "a: [.]; v: .; w: .",
                   (False, (-3, 0, 0), (0, 0, 0), ()), ("go", (), 0))
        rows = "self.v = p; self.a[0] = p; f(new .); self.w = self.a[0]"
        self.check(rows, rows, "f: . -> none, p: .", [(False, (-3, 1, 2), (0, 1, 2), ())], "a: [.]; v: .; w: .",
                   (False, (-3, 0, 0), (0, 0, 0), ()))
        rows = "f(self.a); self.w = self.a[0]"
        self.check(rows, rows, "f: [.] -> none", [(False, (-3, 1), (0, 1), ())], "a: [.]; w: .")
        self.check("f(new .); self.a[0] = self.a[0]", "f(new .)", "f: . -> none", [held], "a: [.]", held)
        self.check("f(new .); self.a[0] = new .", "f(new .)", "f: . -> none", None, "a: [.]", held)
        self.check("self.a[0] = new .; f(new .)", "x = new .; f(new .)", "f: . -> none", None, "a: [.]", held)
        self.check("self.a[0] = self.a[0]; f(new .)", "f(new .); f(new .)", "f: . -> none", [held], "a: [.]", held,
                   ("go", (), 0))
        self.check("f(self.v)", "f(new .)", "f: . -> none", [(False, (0,), (0,), ())], "v: .")
        self.check("f(self.v)", "f(new .)", "f: . -> none", None, "v: .", (False, (1,), (0,), ()))
        self.check("f(self.v)", "f(new .)", "f: . -> none", None, "v: .", (False, (1,), (0,), ()), ("go", (), 0))
        self.check("f(new .)", "g(new .)", "f: . -> none, g: . -> none", None, "v: .")
        # What was handed out at an ask, or is known from the call before, may be replied.
        rows = "x = f(self.a); self.a = new [.]; self.a = x"
        self.check(rows, "x = f(self.a); self.a = x", "f: [.] -> [.]", [held], "a: [.]", joint)
        self.check("x = f(self.a); self.a = x", "x = f(self.a)", "f: [.] -> [.]",
                   [(False, (-3,), (-3,), ()), held], "a: [.]", joint)

    def test_lists_held_since_the_turn_are_as_they_are(self):
        rows = "p[0] = self.a; self.a[0] = v; self.w = self.a[0]"
        self.check(rows, rows, "p: [[.]], v: .", [(False, (-3, 1), (0, 1), ())], "a: [.]; w: .")
        rows = "p[0] = self.a; self.w = self.a[0]"
        joint = (False, (-1, 1, 0), (-1, 1, 0), ())
        self.check(rows, rows, "p: [[.]]", [(False, (-3, 1), (0, 1), ())], "a: [.]; w: .", joint)
        self.check("p[0] = self.a", "p[0] = self.a", "p: [[.]]", None, "a: [.]", (False, (-1, 1), (-1, 0), ()))

    def test_super_that_drops_its_value_reads_it(self):
        lines = ["class Base:", "    def go(p: [[.]]):", "        return p[0]", "class A(Base):",
                 "    def go(p: [[.]]):", "        super(p)", "        x = p[0]", "        p[0] = x",
                 "        return p[0]"]
        kept = kept_of("\n".join(lines), "A")
        other = kept_of("\n".join(lines[:3]), "Base")
        first = first_joint(kept, other)
        self.assertEqual(joint_steps(kept, other, first), {("go", (), -1): [first]})

    def test_by_chance(self):
        calm = parted = 0
        for seed in range(150):
            one, other = made_pair(seed)
            for at in range(3):
                done = self.follow(Pair(one, other, seed * 10 + at), one, other)
                calm, parted = calm + done[0], parted + done[1]
        self.assertGreater(calm, 3000)
        self.assertGreater(parted, 40)

    def follow(self, pair, one, other):
        """Follows two runs, and looks up each step; how many were calm, and whether the runs were parted."""
        calm = 0
        steps = joint_steps(one, other, first_joint(one, other))
        for _ in range(25):
            word = pair.step(puts_values=True)
            with self.subTest(text=one.library.text, deeds=pair.deeds):
                if not pair.are_equal() or (word in ("call", "reply") and pair.could_part()):
                    self.assertIn(word, ("call", "reply"))
                    for label, joints in steps.items():
                        if label[:2] == pair.begun and (label[2] == -1 or label[2] >= pair.asks):
                            self.assertTrue(joints is None or (label[2] != -1 and not pair.first.is_busy), label)
                    return calm, True
                if word in ("call", "reply", "raise") and not pair.first.is_busy:
                    joint, label = joint_of(pair.first, pair.second), pair.first.labels()[-1]
                    self.assertTrue(steps[label] is None or joint in steps[label], label)
                    calm += 1
                    steps = joint_steps(one, other, joint)
        return calm, False

    def test_bad_worlds(self):
        kept = kept_of(SHELF, "Shelf")
        for value in STRANGE_VALUES + (SHELF_ONE[:3], SHELF_ONE + ((),), (0,) + SHELF_ONE[1:], list(SHELF_ONE),
                                       (False, (-1, -3, -1, 0), (-1, 2, -1, 0), ()), SHELF_ONE[:3] + (((0, 3),),)):
            with self.assertRaises(BadWorld) as caught:
                joint_steps(kept, kept, value)
            self.assertIs(caught.exception.form, value)


class ListBoundTests(unittest.TestCase):
    def check(self, many, lines, other_lines=None):
        """Whether trials of these methods have so many lists; above ten they are refused."""
        one = kept_of("\n".join(["class A:"] + lines), "A")
        other = kept_of("\n".join(["class A:"] + (other_lines or lines)), "A")
        for first, second in ((one, other), (other, one)):
            if many <= 10:
                self.assertTrue(joint_steps(first, second, first_joint(first, second)))
            else:
                for joint in (first_joint(first, second), None):
                    with self.assertRaises(TooMany) as caught:
                        joint_steps(first, second, joint)
                    self.assertEqual(caught.exception.what, "lists")

    def test_fields_and_parameters(self):
        fields = ["    a: [[.], [.]]", "    b: [., .]"]
        self.check(8, fields + ["    def go(v: ., i: 2, f: [[.]] -> none):"])
        self.check(10, fields + ["    def go(p: [[.]]):"])
        self.check(11, fields + ["    def go(p: [[.]], q: [.]):"])
        self.check(10, fields + ["    def go(p: [.], q: [.]):"])
        self.check(11, fields + ["    def a(p: [.]):", "    def go(p: [[.], [.]]):"])
        self.check(8, fields + ["    def go(p: [[.], [.]]):"], fields[1:] + ["    def go(p: [[.], [.]]):"])
        five, go = ["    a: [[.], [.], [.]]", "    b: [.]"], ["    def go():"]
        self.check(10, five + go, ["    a: [[[.]], [.]]", "    b: [.]"] + go)
        self.check(11, five + go, ["    a: [[.], [.]]", "    b: [[.], [.]]"] + go)

    def test_asks_and_replies(self):
        head = ["    a: [.]", "    def go(f: . -> [.], g: [.] -> ., p: [.]):"]
        ask, plain = "        f(new .)", "        g(new [.])"
        self.check(3, head)
        self.check(8, head + [ask])
        self.check(6, head + [plain])
        self.check(9, head + [plain] * 2)
        self.check(12, head + [plain] * 3)
        self.check(12, head + [ask, plain])
        self.check(8, head + [ask], head)
        self.check(12, head + [plain, plain], head + [ask])
        self.check(9, head + [plain, plain], head + [plain])
        self.check(15, head + [ask, ask])
        self.check(10, ["    def go(f: . -> [[.], [[.]]], p: [.]):", ask])
        self.check(12, ["    def go(f: . -> [[.], [[.]]], p: [[.]]):", ask])

    def test_asks_of_the_definitions_behind(self):
        lines = ["class A:", "    a: [.]", "    def go(f: . -> [.]):", "        f(new .)",
                 "class B(A):", "    def go(g: . -> [.]):", "        super(wrap(g, 0, 1))",
                 "class C(B):", "    def go(f: . -> [.]):", "        f(new .)",
                 "class D(C):", "    def go(f: . -> [.]):", "        super(f)", "        f(new .)"]
        kepts = {name: kept_of("\n".join(lines), name) for name in "ABCD"}
        self.assertEqual(list(joint_steps(kepts["A"], kepts["B"], first_joint(kepts["A"], kepts["B"]))),
                         [("go", (), -1), ("go", (), 0)])
        joint_steps(kepts["B"], kepts["C"], first_joint(kepts["B"], kepts["C"]))
        with self.assertRaises(TooMany):
            joint_steps(kepts["A"], kepts["D"], None)

    def test_no_methods(self):
        kept = kept_of("class A:\n    a: [[.], [.], [.]]\n    b: [[.], [.], [.]]", "A")
        self.assertEqual(joint_steps(kept, kept, first_joint(kept, kept)), {})
        self.assertEqual(MOST_JOINTS, 400)


if __name__ == "__main__":
    unittest.main()
