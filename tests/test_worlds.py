"""Worlds, labels, steps, tables, depths and plain histories (points 21 to 23 and 26)."""

import itertools
import unittest

from handedcopies.errors import BadGoal, BadLabel, BadPlace, BadWhen, BadWorld, Shut, TooMany
from handedcopies.running import Run
from handedcopies.worlds import (
    MOST_WORLDS, Table, World, first_world, labels_of, meets, plain_deeds, step)
from tests.makers import made_kept
from tests.samples import SHELF, STRANGE_VALUES, kept_of, method_text

LENDER = """class A:
    a: [[.], .]
    b: [.]
    enter lend(i: 2, f: [.] -> [.]):
        x = self.a[0]
        self.a[0] = f(x)
        self.a[0] = new [.]
        f(self.b)
    exit back():
    def look():
        return view self.a
    def put(p: [.]):
        p[0] = p[0]
        self.b = p"""
FIRST = (False, (-1, -1, -1))
SHELF_WORLDS = [FIRST, (False, (-1, -3, -1)), (False, (-1, -1, -3)), (False, (-1, -3, -3))]

# Values that are worlds by form of no class with lists in its fields.
NO_FORMS = STRANGE_VALUES + (
    (False,), (False, ()), (False, (-1, -1, -1), ()), [False, (-1, -1, -1)], (False, [-1, -1, -1]),
    (0, (-1, -1, -1)), (1, (-1, -1, -1)), (None, (-1, -1, -1)), ((-1, -1, -1), False), (False, (-1, -1)),
    (False, (-1, -1, -1, -1)), (False, (-1, -1, None)), (False, (-1, -1, "0")), (False, (-1, -1, -4)),
    (False, (-4, -1, -1)), (False, (-1, -1, (-1,))), (False, -1), ("False", (-1, -1, -1)), (False, "abc"),
)


def met(run, goal, when):
    """Whether a run meets a goal now, as point 24 says."""
    if goal == "outside":
        return run.is_outside
    if when == "rest" and run.is_busy or when == "closed" and (run.is_busy or run.is_open):
        return False
    return run.is_seen(goal[5:]) if goal[:5] == "seen " else run.hand_at(goal) is not None


def run_by(kept, *labels):
    run = Run(kept)
    run.follow(*plain_deeds(kept, *labels))
    return run


def nodes_below(shape):
    """A list for each shape of lists in a text, with how many there are."""
    found = {}
    ends = []
    for at, sign in enumerate(shape):
        if sign == "[":
            ends.append(at)
        if sign == "]":
            text = shape[ends.pop():at + 1]
            found[text] = found.get(text, 0) + 1
    return found


def item_texts(shape):
    """The texts of the items of a list's shape."""
    parts, nested = [""], 0
    for sign in shape[1:-1]:
        nested += (sign == "[") - (sign == "]")
        if sign == "," and nested == 0:
            parts.append("")
        else:
            parts[-1] += sign
    return [part.strip() for part in parts]


def codes_by(roots, items, states):
    """The codes of an object, as point 21 goes through it; lists are names with their items and states."""
    codes, numbers = [], {}

    def go_through(name):
        if states[name] == -3:
            codes.append(-3)
        elif name in numbers:
            codes.append(numbers[name])
        else:
            numbers[name] = len(numbers)
            codes.append(states[name])
            for item in items[name]:
                go_through(item)

    for root in roots:
        go_through(root)
    return tuple(codes)


def all_codes(*fields):
    """The codes of all objects that have lists of these shapes in their fields."""
    many = {}
    for shape in fields:
        for text, count in nodes_below(shape).items():
            many[text] = many.get(text, 0) + count
    pool = {text: [(text, at) for at in range(count)] for text, count in many.items()}
    names = [name for part in pool.values() for name in part]
    lists_of = {text: [part for part in item_texts(text) if part != "."] for text in pool}
    found = set()
    choices = [list(itertools.product(*[pool[part] for part in lists_of[text]])) for text, _ in names]
    for rows in itertools.product(*choices):
        items = dict(zip(names, rows))
        for marks in itertools.product((-3, -2, -1), repeat=len(names)):
            states = dict(zip(names, marks))
            if all(states[item] == -3 for name in names if states[name] < -1 for item in items[name]):
                for roots in itertools.product(*[pool[shape] for shape in fields]):
                    found.add(codes_by(roots, items, states))
    return found


class FormTests(unittest.TestCase):
    def is_form(self, kept, form):
        try:
            World(kept, form)
        except BadWorld as error:
            self.assertIs(error.form, form)
            return False
        return True

    def test_exactly_the_codes_of_objects(self):
        for fields in (("[.]",), ("[[.], [.]]", "[.]"), ("[[.]]", "[[.]]"), ("[[[.]]]", "[.]"), ("[., .]", "[.]"),
                       ("[.]", "[.]", "[.]"), ("[[., .], [.]]",)):
            right = all_codes(*fields)
            kept = kept_of("\n".join(["class A:", "    v: ."] + [
                f"    {word}: {shape}" for word, shape in zip("abc", fields)]), "A")
            longest = sum(shape.count("[") for shape in fields)
            for length in range(longest + 2):
                for codes in itertools.product(range(-4, longest + 1), repeat=length):
                    self.assertEqual(self.is_form(kept, (True, codes)), codes in right, (fields, codes))

    def test_examples(self):
        kept = kept_of("class A:\n    a: [[.], [.]]\n    b: [[.], [.]]\n    c: [.]", "A")
        for codes in ((-1, -1, -1, -1, -1, -1, -1), (-3, -3, -3), (-1, -1, 1, 0, 1), (-2, -3, -3, 0, -3),
                      (-1, -1, -2, -1, 2, 1, 2), (-1, -3, -1, -2, -3, -3, 1)):
            self.assertTrue(self.is_form(kept, (False, codes)), codes)
            self.assertTrue(self.is_form(kept, (True, codes)), codes)
        for codes in ((-1, 0, -1, -3, -3), (-1, -1, -1, 1, -3), (-3, -3, 0), (-2, -1, -3, -3, -3), (-2, -3, 0, -3, -3),
                      (-1, -1, 2, -3, -3), (-1, -1, 1, 0, 0), (-1, -3, -3, -2, -3, -2, -3), (-3, -3), (-3, -3, -3, -3)):
            self.assertFalse(self.is_form(kept, (False, codes)), codes)

    def test_any_values(self):
        kept = kept_of(SHELF, "Shelf")
        for value in NO_FORMS:
            self.assertFalse(self.is_form(kept, value), str(value)[:50])
        kept = kept_of("class A:\n    a: [.]\n    b: [.]", "A")
        for codes in ((-1, False), (-1, "0"), (-1, None), (-1, (0,)), (-1, 10 ** 29), (-1, -10 ** 29), (-1, 1)):
            self.assertFalse(self.is_form(kept, (False, codes)))
        self.assertTrue(self.is_form(kept, (False, (-1, 0))))
        kept = kept_of("class A:\n    a: [.]\n    b: [.]\n    c: [.]", "A")
        self.assertTrue(self.is_form(kept, (True, (-1, -1, 1))))
        self.assertFalse(self.is_form(kept, (True, (-1, -1, True))))

    def test_no_lists(self):
        kept = kept_of("class A:\n    v: .", "A")
        self.assertTrue(self.is_form(kept, (False, ())))
        self.assertFalse(self.is_form(kept, (False, (-1,))))
        self.assertFalse(self.is_form(kept, (0, ())))


class WorldTests(unittest.TestCase):
    def setUp(self):
        self.kept = kept_of("class A:\n    a: [[.], [.]]\n    v: .\n    b: [[.], [.]]\n    c: [.]", "A")

    def test_states(self):
        world = World(self.kept, (True, (-2, -3, -3, -1, -1, 2, -3)))
        self.assertEqual([world.state(place) for place in self.kept.places()],
                         ["seen", "held", "held", "shut", "shut", "shut", "held"])
        world = World(self.kept, (False, (-1, -2, -1, -3, 1)))
        self.assertEqual([world.state(place) for place in self.kept.places()],
                         ["shut", "seen", "shut", "held", "held", "held", "seen"])
        world = World(self.kept, (False, (-2, -3, -3, 0, -1)))
        self.assertEqual([world.state(place) for place in self.kept.places()],
                         ["seen", "held", "held", "seen", "held", "held", "shut"])

    def test_properties(self):
        world = World(self.kept, (True, (-2, -3, -3, 0, -1)))
        self.assertEqual((world.form, world.is_open, len(world)), ((True, (-2, -3, -3, 0, -1)), True, 2))
        world = World(self.kept, (False, (-3, -3, -3)))
        self.assertEqual((world.is_open, len(world)), (False, 0))
        self.assertEqual(len(World(self.kept, (False, (-1,) * 7))), 7)

    def test_equality(self):
        other = kept_of("class B:\n    x: [.]\n    y: [[.], .]", "B")
        form = (False, (-1, -1, -1))
        self.assertEqual(World(kept_of(SHELF, "Shelf"), form), World(other, form))
        self.assertNotEqual(World(other, form), World(other, (True, (-1, -1, -1))))
        self.assertNotEqual(World(other, form), World(other, (False, (-1, -1, -3))))
        self.assertNotEqual(World(other, form), form)
        self.assertNotEqual(form, World(other, form))

    def test_same(self):
        places = list(self.kept.places())
        world = World(self.kept, (False, (-1, -3, -1, 0, 1)))
        groups = (("a", "b"), ("a[0]", "b[0]"), ("a[1]", "b[1]", "c"))
        for one, other in itertools.product(places, repeat=2):
            self.assertEqual(world.same(one, other), any(one in group and other in group for group in groups))
        world = World(self.kept, (False, (-3, -3, -3)))
        for one, other in itertools.product(places, repeat=2):
            self.assertEqual(world.same(one, other), one == other)
        world = World(self.kept, (False, (-1, -1, 1, -1, 1, -1, 3)))
        self.assertTrue(world.same("a[0]", "a[1]") and world.same("a[1]", "b[0]") and world.same("b[1]", "c"))
        self.assertFalse(world.same("a", "b") or world.same("a[0]", "c"))

    def test_places(self):
        world = World(self.kept, (False, (-3, -3, -3)))
        for value in STRANGE_VALUES + ("v", "a[2]", "a[0][0]", "A", "a ", "seen a", "outside"):
            for ask in (world.state, lambda place: world.same(place, "a"), lambda place: world.same("a", place),
                        lambda place: world.same(place, "no")):
                with self.subTest(str(value)[:50]), self.assertRaises(BadPlace) as caught:
                    ask(value)
                self.assertIs(caught.exception.place, value)

    def test_as_in_runs(self):
        for seed in range(60):
            kept = made_kept(seed)
            table = Table(kept)
            for form in table:
                run = run_by(kept, *table.tour().labels_to(form))
                world = World(kept, form)
                self.assertEqual(run.world(), form)
                for one in kept.places():
                    state = "held" if run.hand_at(one) is not None else "seen" if run.is_seen(one) else "shut"
                    self.assertEqual(world.state(one), state)
                    for other in kept.places():
                        if state != "held":
                            self.assertEqual(world.same(one, other), run.same(one, other))


class LabelTests(unittest.TestCase):
    def test_labels(self):
        self.assertEqual(list(labels_of(kept_of(SHELF, "Shelf"))),
                         [("get", (0,), -1), ("get", (1,), -1), ("put", (0,), -1), ("put", (1,), -1)])
        text = "class A:\n    def go(i: 2, f: . -> ., j: 3):\n        f(new .)\n        f(new .)\n    def call():"
        self.assertEqual(list(labels_of(kept_of(text, "A"))), [("call", (), -1)] + [
            ("go", (i, j), ending) for i in range(2) for j in range(3) for ending in (-1, 0, 1)])
        self.assertEqual(list(labels_of(kept_of("class A:", "A"))), [])
        self.assertEqual(list(labels_of(kept_of("class A:\n    def go(i: 1):", "A"))), [("go", (0,), -1)])

    def test_ascending_and_within_the_bound(self):
        for seed in range(80):
            labels = list(labels_of(made_kept(seed)))
            self.assertEqual(labels, sorted(set(labels)))
            self.assertLessEqual(len(labels), 60)

    def test_asks_of_heirs(self):
        text = method_text(["f(new .)"], "f: . -> .") + (
            "\nclass B(A):\n    def go(f: . -> .):\n        f(new .)\n        super(f)\n        f(new .)")
        self.assertEqual(list(labels_of(kept_of(text, "B"))), [("go", (), ending) for ending in range(-1, 3)])


class StepTests(unittest.TestCase):
    def test_shelf(self):
        kept = kept_of(SHELF, "Shelf")
        self.assertEqual(first_world(kept), FIRST)
        for form in SHELF_WORLDS:
            for method, (at,), _ in labels_of(kept):
                codes = list(form[1])
                codes[at + 1] = -3
                self.assertEqual(step(kept, form, (method, (at,), -1)), (False, tuple(codes)))
        self.assertEqual(step(kept, (True, (-1, -1, 1)), ("get", (0,), -1)), (True, (-1, -3, -3)))
        self.assertEqual(step(kept, (True, (-1, -1, 1)), ("put", (0,), -1)), (True, (-1, -3, -1)))
        self.assertEqual(step(kept, (False, (-2, -3, -3)), ("put", (0,), -1)), (False, (-2, -3, -3)))

    def test_lender(self):
        kept = kept_of(LENDER, "A")
        self.assertEqual(step(kept, FIRST, ("lend", (1,), -1)), (True, (-1, -1, -3)))
        self.assertEqual(step(kept, FIRST, ("lend", (0,), 0)), (False, (-1, -3, -1)))
        self.assertEqual(step(kept, FIRST, ("lend", (0,), 1)), (False, (-1, -1, -3)))
        self.assertEqual(step(kept, (True, (-1, -3, -1)), ("back", (), -1)), (False, (-1, -3, -1)))
        self.assertEqual(step(kept, (True, (-1, -1, -1)), ("look", (), -1)), (True, (-2, -3, -1)))
        self.assertEqual(step(kept, (False, (-2, -3, -1)), ("lend", (1,), -1)), (True, (-2, -3, -3)))
        self.assertEqual(step(kept, (False, (-3, -3)), ("lend", (1,), -1)), (True, (-3, -3)))

    def test_exit_with_a_raise(self):
        kept = kept_of("class A:\n    a: [.]\n    exit stop(f: [.] -> none):\n        f(self.a)\n"
                       "    enter start(f: [.] -> none):\n        f(self.a)", "A")
        self.assertEqual(step(kept, (True, (-1,)), ("stop", (), 0)), (False, (-3,)))
        self.assertEqual(step(kept, (True, (-1,)), ("stop", (), -1)), (False, (-3,)))
        self.assertEqual(step(kept, (False, (-2,)), ("start", (), 0)), (False, (-3,)))
        self.assertEqual(step(kept, (False, (-2,)), ("start", (), -1)), (True, (-3,)))

    def test_wrong_values(self):
        kept = kept_of(LENDER, "A")
        right = ("look", (), -1)
        no_labels = STRANGE_VALUES + (
            ("look", ()), ("look", (), -1, 0), ["look", (), -1], ("look", [], -1), ("look", (0,), -1), ("look", (), 0),
            ("look", (), -2), ("look", (), None), ("look", (), True), ("lend", (), -1), ("lend", (2,), -1),
            ("lend", (-1,), -1), ("lend", (True,), -1), ("lend", (0, 0), -1), ("lend", (0,), 2), ("lend", (0,), True),
            ("lend", (0,), False), ("lend", (None,), 0), ("no", (), -1), ("Look", (), -1), (("look",), (), -1),
            ("lend", 0, -1), ("a", (), -1), ("lend", (0,), "0"))
        for ask in (lambda form, label: step(kept, form, label),
                    lambda form, label: meets(kept, form, label, "no", when="no")):
            for value in NO_FORMS:
                with self.subTest(form=str(value)[:50]), self.assertRaises(BadWorld) as caught:
                    ask(value, None)
                self.assertIs(caught.exception.form, value)
            for value in no_labels:
                with self.subTest(label=str(value)[:50]), self.assertRaises(BadLabel) as caught:
                    ask(FIRST, value)
                self.assertIs(caught.exception.label, value)
            with self.assertRaises(Shut) as caught:
                ask(FIRST, ("back", (), -1))
            self.assertEqual(caught.exception.method, "back")
            with self.assertRaises(Shut) as caught:
                ask((True, (-1, -1, -1)), ("lend", (0,), 0))
            self.assertEqual(caught.exception.method, "lend")
        for value in STRANGE_VALUES + ("b[0]", "v", "seen", "seen outside", "seen  b", "Outside", "b "):
            with self.subTest(goal=str(value)[:50]), self.assertRaises(BadGoal) as caught:
                meets(kept, FIRST, right, value, when=None)
            self.assertIs(caught.exception.goal, value)
        for value in STRANGE_VALUES + ("Rest", "open", "busy"):
            with self.subTest(when=str(value)[:50]), self.assertRaises(BadWhen) as caught:
                meets(kept, FIRST, right, "b", when=value)
            self.assertIs(caught.exception.when, value)


class MeetsTests(unittest.TestCase):
    def test_lender(self):
        kept = kept_of(LENDER, "A")
        whens = {}
        for goal in kept.goals():
            for label in labels_of(kept):
                form = (True, FIRST[1]) if label[0] == "back" else FIRST
                found = [when for when in ("rest", "closed", "ever") if meets(kept, form, label, goal, when=when)]
                if found and label[1] != (1,):
                    whens[goal, label] = found
        every = ["rest", "closed", "ever"]
        self.assertEqual(whens, {
            ("b", ("lend", (0,), -1)): ["rest", "ever"], ("seen b", ("lend", (0,), -1)): ["rest", "ever"],
            ("b", ("lend", (0,), 1)): every, ("seen b", ("lend", (0,), 1)): every,
            ("a[0]", ("lend", (0,), -1)): ["ever"], ("seen a[0]", ("lend", (0,), -1)): ["ever"],
            ("a[0]", ("lend", (0,), 0)): every, ("seen a[0]", ("lend", (0,), 0)): every,
            ("a[0]", ("lend", (0,), 1)): ["ever"], ("seen a[0]", ("lend", (0,), 1)): ["ever"],
            ("b", ("put", (), -1)): every, ("seen b", ("put", (), -1)): every, ("outside", ("put", (), -1)): every,
            ("seen a", ("look", (), -1)): every, ("a[0]", ("look", (), -1)): every,
            ("seen a[0]", ("look", (), -1)): every,
        })

    def test_default_is_rest(self):
        kept = kept_of(LENDER, "A")
        self.assertFalse(meets(kept, FIRST, ("lend", (0,), -1), "a[0]"))
        self.assertTrue(meets(kept, FIRST, ("lend", (0,), -1), "b"))

    def test_outside_in_calls_that_end_with_a_raise(self):
        kept = kept_of(method_text(["f(self.a)", "self.a[0] = new .", "f(self.a)", "self.a[0] = f(self.a)"],
                                   "f: [.] -> .", "a: [.]"), "A")
        form = (False, (-1,))
        for when in ("rest", "closed", "ever"):
            self.assertEqual([meets(kept, form, ("go", (), ending), "outside", when=when) for ending in (0, 1, 2, -1)],
                             [False, True, True, True])
        kept = kept_of(method_text(["self.a[0] = f(self.a)"], "f: [.] -> .", "a: [.]"), "A")
        self.assertFalse(meets(kept, form, ("go", (), 0), "outside", when="ever"))
        self.assertTrue(meets(kept, form, ("go", (), -1), "outside"))
        self.assertTrue(meets(kept, (False, (-3,)), ("go", (), -1), "outside"))
        self.assertFalse(meets(kept, (False, (-3,)), ("go", (), 0), "outside"))

    def test_as_in_runs(self):
        for seed in range(60):
            kept = made_kept(seed)
            table = Table(kept)
            goals = kept.goals()
            for form in table:
                for label in labels_of(kept):
                    labels = table.tour().labels_to(form)
                    try:
                        deeds = plain_deeds(kept, *labels, label)
                    except Shut:
                        continue
                    run = run_by(kept, *labels)
                    seen = set()
                    for deed in deeds[len(plain_deeds(kept, *labels)):]:
                        run.do(deed)
                        if run.calls > len(labels):
                            seen |= {(goal, when) for goal in goals for when in ("rest", "closed", "ever")
                                     if met(run, goal, when)}
                    self.assertEqual(step(kept, form, label), run.world())
                    self.assertEqual({(goal, when) for goal in goals for when in ("rest", "closed", "ever")
                                      if meets(kept, form, label, goal, when=when)}, seen)


class TableTests(unittest.TestCase):
    def test_shelf(self):
        kept = kept_of(SHELF, "Shelf")
        table = Table(kept)
        self.assertEqual(table.kept, kept)
        self.assertEqual(list(table), [SHELF_WORLDS[0], SHELF_WORLDS[1], SHELF_WORLDS[2], SHELF_WORLDS[3]])
        self.assertEqual([table[at] for at in range(4)], list(table))
        self.assertEqual(len(table), 4)
        self.assertEqual([table.depth_of(form) for form in table], [0, 1, 1, 2])
        self.assertEqual(list(Table(kept_of(SHELF, "Guarded"))),
                         [FIRST, SHELF_WORLDS[1], SHELF_WORLDS[2], SHELF_WORLDS[3]])

    def test_in(self):
        table = Table(kept_of(SHELF, "Shelf"))
        for form in SHELF_WORLDS:
            self.assertIn(form, table)
        for value in NO_FORMS + ((True, (-1, -1, -1)), (False, (-3, )), (False, (-1, -1, 1))):
            self.assertFalse(value in table, str(value)[:50])
            with self.assertRaises(BadWorld) as caught:
                table.depth_of(value)
            self.assertIs(caught.exception.form, value)

    def test_bound(self):
        self.assertEqual(MOST_WORLDS, 400)
        kept = kept_of(SHELF, "Shelf")
        self.assertEqual(len(Table(kept, most=4)), 4)
        for most in (1, 2, 3):
            with self.assertRaises(TooMany) as caught:
                Table(kept, most=most)
            self.assertEqual(caught.exception.what, "worlds")
        self.assertEqual(len(Table(kept_of("class A:", "A"), most=1)), 1)
        self.assertEqual(len(Table(kept, most=1000)), 4)

    def test_default_bound(self):
        lines = ["class A:", "    a: [[.], [.], [.]]", "    b: [[.], [.], [.]]"]
        for name, rows in (("take(i: 3)", ["return self.a[i]"]), ("seize(i: 3)", ["return self.b[i]"]),
                           ("free(i: 3)", ["self.a[i] = new [.]"]), ("mix(i: 3, j: 3)", ["self.a[i] = self.b[j]"])):
            lines += [f"    def {name}:"] + [f"        {row}" for row in rows]
        kept = kept_of("\n".join(lines), "A")
        table = Table(kept, most=1000)
        self.assertGreater(len(table), 400)
        self.assertEqual(len(Table(kept, most=len(table))), len(table))
        for most in ({}, {"most": 400}, {"most": len(table) - 1}):
            with self.assertRaises(TooMany):
                Table(kept, **most)
        self.assertEqual(sorted(table, key=lambda form: (table.depth_of(form), form)), list(table))

    def test_worlds_of_all_histories_by_depth(self):
        for seed in range(100):
            kept = made_kept(seed)
            depths, layer, depth = {first_world(kept): 0}, {first_world(kept): ()}, 0
            while layer:
                depth += 1
                found = {}
                for before in layer.values():
                    for label in labels_of(kept):
                        try:
                            form = run_by(kept, *before, label).world()
                        except Shut:
                            continue
                        if form not in depths:
                            depths[form] = depth
                            found[form] = before + (label,)
                layer = found
            table = Table(kept)
            self.assertEqual({form: table.depth_of(form) for form in table}, depths)
            self.assertEqual(list(table), sorted(depths, key=lambda form: (depths[form], form)))

    def test_follow(self):
        table = Table(kept_of(LENDER, "A"))
        self.assertEqual(table.follow(), FIRST)
        self.assertEqual(table.follow(("lend", (0,), -1), ("look", (), -1), ("back", (), -1)), (False, (-2, -3, -3)))
        with self.assertRaises(Shut) as caught:
            table.follow(("lend", (0,), -1), ("lend", (0,), -1), ("no", (), -1))
        self.assertEqual(caught.exception.method, "lend")
        wrong = ("lend", (0,), 2)
        with self.assertRaises(BadLabel) as caught:
            table.follow(("lend", (0,), -1), wrong, ("lend", (0,), -1))
        self.assertIs(caught.exception.label, wrong)


class PlainDeedsTests(unittest.TestCase):
    def test_deeds(self):
        kept = kept_of(LENDER, "A")
        self.assertEqual(plain_deeds(kept), ())
        self.assertEqual(plain_deeds(kept, ("put", (), -1)), (("make", "[.]"), ("call", "put", (0,))))
        self.assertEqual(plain_deeds(kept, ("lend", (1,), 0)), (("call", "lend", (1, None)), ("raise",)))
        self.assertEqual(plain_deeds(kept, ("lend", (1,), -1), ("back", (), -1), ("lend", (0,), 1)), (
            ("call", "lend", (1, None)), ("make", "[.]"), ("reply", 1), ("make", "[.]"), ("reply", 3),
            ("call", "back", ()), ("call", "lend", (0, None)), ("make", "[.]"), ("reply", 5), ("raise",)))

    def test_plain_values_and_no_replies(self):
        kept = kept_of(method_text(["f(v)", "g(v)"], "v: ., f: . -> ., g: . -> none"), "A")
        self.assertEqual(plain_deeds(kept, ("go", (), -1)),
                         (("call", "go", (None, None, None)), ("reply", None), ("reply", None)))
        kept = kept_of(method_text(["f(p)"], "p: [[.], .], f: [[.], .] -> [[.]], q: [.]"), "A")
        self.assertEqual(plain_deeds(kept, ("go", (), -1)), (
            ("make", "[[.], .]"), ("make", "[.]"), ("call", "go", (0, None, 2)), ("make", "[[.]]"), ("reply", 3)))

    def test_labels_of_the_run(self):
        for seed in range(60):
            kept = made_kept(seed)
            table = Table(kept)
            for form in table:
                labels = table.tour().labels_to(form)
                run = run_by(kept, *labels)
                self.assertEqual((run.labels(), run.world(), len(labels)), (labels, form, table.depth_of(form)))
                self.assertEqual(table.follow(*labels), form)

    def test_wrong_labels(self):
        kept = kept_of(LENDER, "A")
        for value in STRANGE_VALUES + (("back", (), 0), ("put", (0,), -1), ["put", (), -1], ("put", (), False)):
            with self.subTest(str(value)[:50]), self.assertRaises(BadLabel) as caught:
                plain_deeds(kept, ("put", (), -1), value, ("back", (), -1))
            self.assertIs(caught.exception.label, value)
        with self.assertRaises(Shut) as caught:
            plain_deeds(kept, ("back", (), -1), ("no", (), -1))
        self.assertEqual(caught.exception.method, "back")
