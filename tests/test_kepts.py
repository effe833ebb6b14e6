"""Kepts: fields, methods, definitions, bounds, faces, places and goals (points 10 and 12, 18, 21, 22, 24)."""

import unittest

from handedcopies.errors import BadField, BadMethod, BadPlace, BadRow, NoClass, TooMany
from handedcopies.families import Library
from handedcopies.kepts import Kept
from tests.samples import SHELF, STRANGE_VALUES, kept_of, method_text

FAMILY = """class Top:
    one: [[.], [.]]
    two: .
    def set(row: [.], at: 2):
        self.one[at] = row
    enter begin(f: [.] -> [.]):
        x = f(self.one[0])
        return view x
class Left(Top):
    three: [.]
    two: .
    def set(item: [.], where: 2):
        super(copy(item), where)
        self.three = item
class Right(Top):
    four: [., .]
    def set(row: [.], i: 2):
        row = new [.]
    enter begin(g: [.] -> [.]):
        return view super(wrap(g, 1, 0))
class Both(Left, Right):
    exit end(v: ., k: 3, f: . -> none):
        f(v)
    def aside():
        return self.two
"""[:-1]

SIX_ASKS = ["f(new .)"] * 6


class MadeTests(unittest.TestCase):
    def test_shelf(self):
        kept = kept_of(SHELF, "Shelf")
        self.assertEqual((kept.name, kept.library), ("Shelf", Library(SHELF)))
        self.assertEqual(kept.fields, (("rows", "[[.], [.]]"),))
        self.assertEqual(kept.methods, ("get", "put"))
        self.assertEqual(kept.owners("get"), ["Shelf"])
        self.assertEqual(kept.face("get"), ("def", (2,), "[.]"))
        self.assertEqual(kept.face("put"), ("def", (2, "[.]"), None))
        self.assertEqual((kept.asks("get"), kept.asks("put")), (0, 0))

    def test_guarded(self):
        kept = kept_of(SHELF, "Guarded")
        self.assertEqual((kept.fields, kept.methods), ((("rows", "[[.], [.]]"),), ("get", "put")))
        self.assertEqual((kept.owners("get"), kept.owners("put")), (["Guarded", "Shelf"], ["Shelf"]))
        self.assertEqual(kept.face("get"), ("def", (2,), "[.]"))

    def test_family(self):
        kept = kept_of(FAMILY, "Both")
        self.assertEqual(kept.fields, (("one", "[[.], [.]]"), ("two", "."), ("four", "[., .]"), ("three", "[.]")))
        self.assertEqual(kept.methods, ("aside", "begin", "end", "set"))
        self.assertEqual(kept.owners("set"), ["Left", "Right", "Top"])
        self.assertEqual(kept.owners("begin"), ["Right", "Top"])
        self.assertEqual(kept.owners("end"), ["Both"])
        self.assertEqual(kept.face("aside"), ("def", (), "."))
        self.assertEqual(kept.face("begin"), ("enter", (("[.]", "[.]"),), ("view", "[.]")))
        self.assertEqual(kept.face("end"), ("exit", (".", 3, (".", None)), None))
        self.assertEqual(kept.face("set"), ("def", ("[.]", 2), None))
        self.assertEqual([kept.asks(method) for method in kept.methods], [0, 1, 1, 0])

    def test_kinds_of_values(self):
        kept = kept_of(FAMILY, "Both")
        self.assertEqual((type(kept.fields), type(kept.methods), type(kept.owners("set"))), (tuple, tuple, list))
        mark, kinds, _ = kept.face("end")
        self.assertEqual((type(mark), type(kinds), type(kinds[2]), type(kept.asks("end"))), (str, tuple, tuple, int))

    def test_class_without_anything(self):
        kept = kept_of("class A:", "A")
        self.assertEqual((kept.fields, kept.methods, list(kept.places()), kept.goals()), ((), (), [], ["outside"]))

    def test_returned_lists_are_new(self):
        kept = kept_of(FAMILY, "Both")
        kept.owners("set").clear()
        kept.goals().clear()
        self.assertEqual(kept.owners("set"), ["Left", "Right", "Top"])
        self.assertEqual(kept.goals()[-1], "outside")

    def test_a_field_of_a_class_below(self):
        text = "class A:\n    def go():\n        return self.x\nclass B(A):\n    x: [.]"
        self.assertEqual(kept_of(text, "B").face("go"), ("def", (), "[.]"))
        with self.assertRaises(BadRow):
            kept_of(text, "A")

    def test_equality(self):
        self.assertEqual(kept_of(SHELF, "Shelf"), Library(SHELF).kept_of("Shelf"))
        self.assertNotEqual(kept_of(SHELF, "Shelf"), kept_of(SHELF, "Guarded"))
        self.assertNotEqual(kept_of(SHELF, "Shelf"), kept_of(SHELF + "\nclass A:", "Shelf"))
        for other in ("Shelf", Library(SHELF), None, True, ()):
            self.assertNotEqual(kept_of(SHELF, "Shelf"), other)

    def test_kept_of(self):
        kept = Library(FAMILY).kept_of("Left")
        self.assertIsInstance(kept, Kept)
        self.assertEqual((kept.name, kept.library), ("Left", Library(FAMILY)))

    def test_keywords(self):
        library = Library(text=SHELF)
        kept = Kept(library=library, name="Guarded")
        self.assertEqual(library.kept_of(name="Guarded"), kept)
        self.assertEqual(library.order(name="Guarded"), kept.owners(method="get"))
        self.assertEqual((kept.face(method="put")[0], kept.asks(method="put")), ("def", 0))
        self.assertEqual(kept.shape_at(place="rows"), "[[.], [.]]")

    def test_no_class(self):
        library = Library(SHELF)
        for name in STRANGE_VALUES + ("shelf", ["Shelf"], ("Shelf",), ("Shelf", "Guarded")):
            with self.subTest(str(name)[:40]), self.assertRaises(NoClass) as caught:
                Kept(library, name)
            self.assertIs(caught.exception.name, name)


class PlaceTests(unittest.TestCase):
    TEXT = "class A:\n    b: [[[.], .], [., .]]\n    plain: .\n    a: [., [.]]\nclass B(A):\n    c: [.]"
    PLACES = ["b", "b[0]", "b[0][0]", "b[1]", "a", "a[1]", "c"]

    def test_places(self):
        places = kept_of(self.TEXT, "B").places()
        self.assertEqual(next(places), "b")
        self.assertEqual(list(places), self.PLACES[1:])
        self.assertEqual(list(kept_of(self.TEXT, "A").places()), self.PLACES[:-1])

    def test_goals(self):
        expected = [goal for place in self.PLACES for goal in (place, "seen " + place)] + ["outside"]
        self.assertEqual(kept_of(self.TEXT, "B").goals(), expected)
        self.assertEqual(kept_of(SHELF, "Shelf").goals(), [
            "rows", "seen rows", "rows[0]", "seen rows[0]", "rows[1]", "seen rows[1]", "outside"])

    def test_shape_at(self):
        kept = kept_of(self.TEXT, "B")
        shapes = [kept.shape_at(place) for place in self.PLACES]
        self.assertEqual(shapes, ["[[[.], .], [., .]]", "[[.], .]", "[.]", "[., .]", "[., [.]]", "[.]", "[.]"])

    def test_bad_place(self):
        kept = kept_of(self.TEXT, "B")
        wrong = ("plain", "d", "B", "a[0]", "b[2]", "b[0][1]", "b[-1]", "b[00]", "b[0", "b 0", "b[0][0][0]", "self.b",
                 "seen b", "outside", " b", "b[True]", ["b"], ("b",), ("b", 0), ("b", True), [["b"]])
        for place in wrong + STRANGE_VALUES:
            with self.subTest(str(place)[:40]), self.assertRaises(BadPlace) as caught:
                kept.shape_at(place)
            self.assertIs(caught.exception.place, place)


class BoundTests(unittest.TestCase):
    def check_many(self, text, name, what):
        with self.subTest(what):
            if what is None:
                kept_of(text, name)
            else:
                with self.assertRaises(TooMany) as caught:
                    kept_of(text, name)
                self.assertEqual(caught.exception.what, what)

    def test_unlike_fields(self):
        text = ("class A:\n    a: .\n    b: [.]\n    c: [.]\nclass B:\n    c: [., .]\n    b: .\nclass C(A, B):\n"
                "class D(B, A):\n    a: [.]\nclass E(A):\n    b: [.]\n    a: .")
        for name, field in (("C", "c"), ("D", "a")):
            with self.subTest(name), self.assertRaises(BadField) as caught:
                kept_of(text, name)
            self.assertEqual(caught.exception.name, field)
        self.assertEqual(kept_of(text, "E").fields, (("a", "."), ("b", "[.]"), ("c", "[.]")))

    def test_a_class_between_may_be_unlike(self):
        text = "class A:\n    a: .\nclass B(A):\n    a: [.]\nclass C(B):\n    a: ."
        with self.assertRaises(BadField):
            kept_of(text, "C")

    def test_four_fields(self):
        text = "class A:\n    a: .\n    b: .\n    c: .\n    d: .\nclass B(A):\n    d: .\nclass C(A):\n    e: ."
        self.check_many(text, "B", None)
        self.check_many(text, "C", "fields")

    def test_eight_lists(self):
        five = "[[., ., .], [.], [[.], .]]"
        text = f"class A:\n    a: {five}\n    b: [[.], [.]]\nclass B(A):\n    c: .\nclass C(A):\n    c: [.]"
        self.check_many(text, "B", None)
        self.check_many(text, "C", "lists")
        self.check_many(f"class A:\n    a: {five}\n    b: {five}", "A", "lists")

    def test_five_methods(self):
        methods = "".join([f"\n    def {word}():" for word in "abcde"])
        text = f"class A:{methods}\nclass B(A):\n    def a():\nclass C(A):\n    def f():"
        self.check_many(text, "B", None)
        self.check_many(text, "C", "methods")

    def test_four_asks(self):
        parameters = "f: . -> none"
        self.assertEqual(kept_of(method_text(SIX_ASKS[:4], parameters), "A").asks("go"), 4)
        self.check_many(method_text(SIX_ASKS[:5], parameters), "A", "asks")
        self.check_many(method_text(SIX_ASKS, parameters), "A", "asks")

    def test_asks_of_several_definitions(self):
        text = method_text(["f(new .)"] * 3, "f: . -> none")
        below = "\nclass B(A):\n    def go(f: . -> none):\n        "
        self.assertEqual(kept_of(text + below + "super(f)\n        f(new .)", "B").asks("go"), 4)
        self.assertEqual(kept_of(text + below + "f(new .)\n        super(wrap(f, 0, 0))", "B").asks("go"), 4)
        self.assertEqual(kept_of(text + below + "f(new .)", "B").asks("go"), 1)
        self.check_many(text + below + "f(new .)\n        super(f)\n        f(new .)", "B", "asks")
        middle = text + below + "f(new .)\nclass C(B):\n    def go(g: . -> none):\n        super(g)"
        self.assertEqual(kept_of(middle, "C").asks("go"), 1)

    def test_asks_in_every_kind_of_row(self):
        rows = ["a = f(new [.])", "self.a = copy(f(a))", "f(a)", "return view copy(f(copy(a)), 1)"]
        self.assertEqual(kept_of(method_text(rows, "f: [.] -> [.]", "a: [.]"), "A").asks("go"), 4)

    def test_asks_that_no_call_has(self):
        text = method_text(SIX_ASKS, "f: . -> none") + "\nclass B(A):\n    def go(f: . -> none):"
        self.check_many(text, "A", "asks")
        self.check_many(text, "B", None)

    def test_sixty_labels(self):
        def methods(*parameters):
            return "class A:" + "".join([f"\n    def {word}({given}):" for word, given in zip("abcde", parameters)])
        three = "a: 3, b: 3, c: 3"
        self.check_many(methods(three, three, "a: 3, b: 2, c: [.]"), "A", None)
        self.check_many(methods(three, three, "a: 3, b: 2", ""), "A", "labels")
        self.check_many(methods(three, three, three), "A", "labels")
        asking = "class A:\n    def a(i: 3, j: 2, f: . -> none):" + "\n        f(new .)" * 4
        self.check_many(asking + "\n    def b(i: 3, j: 3, k: 3):\n    enter c(i: 2):\n    exit d(i: 1):", "A", None)
        self.check_many(asking + "\n    def b(i: 3, j: 3, k: 3):\n    enter c(i: 2):\n    exit d(i: 2):", "A", "labels")

    def test_labels_count_the_asks_of_super(self):
        # 27 labels of a, and with two or three asks of it 6 * 6 or 6 * 7 of b would be too many or not.
        text = ("class A:\n    def a(i: 3, j: 3, k: 3):\n    def b(i: 3, j: 3, f: . -> none):\n        f(new .)\n"
                "class B(A):\n    def b(i: 3, j: 3, f: . -> none):\n        super(i, j, f)\n        f(new .)\n"
                "class C(B):\n    def b(i: 3, j: 3, f: . -> none):\n        super(i, 0, f)\n        f(new .)")
        self.check_many(text, "A", None)
        self.check_many(text, "B", None)
        self.check_many(text, "C", "labels")


class FaceTests(unittest.TestCase):
    def test_unlike_faces(self):
        above = "class A:\n    def go(i: 2, row: [.], f: [.] -> none):\n        return row\nclass B(A):\n    "
        for line, row in [
            ("enter go(i: 2, row: [.], f: [.] -> none):", "return row"),
            ("exit go(i: 2, row: [.], f: [.] -> none):", "return row"),
            ("def go(i: 3, row: [.], f: [.] -> none):", "return row"),
            ("def go(i: ., row: [.], f: [.] -> none):", "return row"),
            ("def go(row: [.], i: 2, f: [.] -> none):", "return row"),
            ("def go(i: 2, row: [.], f: [.] -> .):", "return row"),
            ("def go(i: 2, row: [.], f: . -> none):", "return row"),
            ("def go(i: 2, row: [., .], f: [.] -> none):", "return new [.]"),
            ("def go(i: 2, row: [.]):", "return row"),
            ("def go():", "return new [.]"),
            ("def go(i: 2, row: [.], f: [.] -> none):", "return view row"),
            ("def go(i: 2, row: [.], f: [.] -> none):", "return row[0]"),
            ("def go(i: 2, row: [.], f: [.] -> none):", "row[0] = new ."),
        ]:
            with self.subTest(line + row), self.assertRaises(BadMethod) as caught:
                kept_of(above + line + "\n        " + row, "B")
            self.assertEqual((caught.exception.owner, caught.exception.method), ("B", "go"))
        kept_of(above + "def go(at: 2, a: [.], b: [.] -> none):\n        return super(at, a, b)", "B")

    def test_return_of_super_is_no_view_by_itself(self):
        text = "class A:\n    def go():\n        return view new [.]\nclass B(A):\n    def go():\n        return "
        self.assertEqual(kept_of(text + "view super()", "B").face("go"), ("def", (), ("view", "[.]")))
        with self.assertRaises(BadMethod):
            kept_of(text + "super()", "B")

    def test_base_alone_is_right(self):
        text = "class A:\n    def go():\nclass B(A):\n    enter go():"
        self.assertEqual(kept_of(text, "A").methods, ("go",))
        with self.assertRaises(BadMethod):
            kept_of(text, "B")

    def test_last_definition_counts(self):
        text = ("class A:\n    def go():\nclass B:\n    def go(a: .):\nclass C(A):\n    def go(a: .):\n"
                "class D(C, B):\n")
        with self.assertRaises(BadMethod) as caught:
            kept_of(text[:-1], "D")
        self.assertEqual((caught.exception.owner, caught.exception.method), ("A", "go"))


class CheckingOrderTests(unittest.TestCase):
    """Which error comes first where several apply."""

    def error_of(self, lines, name="B"):
        try:
            kept_of("\n".join(lines), name)
        except (BadField, BadMethod, BadRow, NoClass, TooMany) as error:
            return (type(error).__name__, *vars(error).values())
        return None

    def test_before_the_methods(self):
        fields = [f"    {word}: [[.], [.]]" for word in "abcd"]
        methods = [f"    def {word}():" for word in "abcde"]
        above = ["class A:"] + fields + methods
        bad_row = "        self.no = new ."
        self.assertEqual(self.error_of(above + ["class B(A):"], "C"), ("NoClass", "C"))
        self.assertEqual(self.error_of(above + ["class B(A):", "    e: .", "    d: ."]), ("BadField", "d"))
        self.assertEqual(self.error_of(above + ["class B(A):", "    e: .", "    def f():", bad_row]),
                         ("TooMany", "fields"))
        self.assertEqual(self.error_of(above + ["class B(A):", "    def f():", bad_row]), ("TooMany", "lists"))
        few = ["class A:"] + methods
        self.assertEqual(self.error_of(few + ["class B(A):", "    def f():", bad_row]), ("TooMany", "methods"))

    def test_methods_ascending(self):
        lines = ["class A:", "    def b():", "        self.no = new .", "    def a():", "        f(new .)"]
        self.assertEqual(self.error_of(lines, "A"), ("BadRow", "A", "a", 0))

    def test_definitions_from_the_last_one(self):
        bad = "        self.no = new ."
        self.assertEqual(self.error_of(["class A:", "    def go():", bad, "class B(A):", "    def go():", bad]),
                         ("BadRow", "A", "go", 0))
        self.assertEqual(self.error_of(["class A:", "    def go():", "class B(A):", "    def go(a: .):", bad]),
                         ("BadRow", "B", "go", 0))
        self.assertEqual(self.error_of(["class A:", "    def go():", "class B(A):", "    enter go():",
                                        "class C(B):", "    def go():", bad], "C"), ("BadMethod", "B", "go"))

    def test_face_of_one_method_before_rows_of_the_next(self):
        self.assertEqual(self.error_of(["class A:", "    def a():", "class B(A):", "    def a(x: .):", "    def b():",
                                        "        self.no = new ."]), ("BadMethod", "B", "a"))

    def test_rows_from_the_first(self):
        self.assertEqual(self.error_of(["class A:", "    def go(a: [.]):", "        a = a", "        a[1] = a",
                                        "        self.no = a", "        return no"], "A"),
                         ("BadRow", "A", "go", 1))

    def test_asks_and_labels_come_last(self):
        asking = ["class A:", "    def a(f: . -> none):"] + ["        f(new .)"] * 5
        labels = [f"    def {word}(i: 3, j: 3, k: 3):" for word in "bcd"]
        self.assertEqual(self.error_of(asking + labels + ["    def e():", "        self.no = new ."], "A"),
                         ("BadRow", "A", "e", 0))
        self.assertEqual(self.error_of(asking + labels, "A"), ("TooMany", "asks"))
        self.assertEqual(self.error_of(["class A:"] + labels + asking[1:], "A"), ("TooMany", "asks"))
        self.assertEqual(self.error_of(asking[:-1] + labels, "A"), ("TooMany", "labels"))
