"""Which rows fit and what definitions return (point 11)."""

import unittest

from handedcopies.errors import BadRow
from tests.samples import kept_of, method_text

FIELDS = "a: [[.], [.]]; b: [[., .], .]; c: [[[.]], .]; v: ."
PARAMETERS = "p: [.], i: 2, f: [.] -> [[.], .]"


class RowTests(unittest.TestCase):
    """Rows of a method without a next definition."""

    def check_fits(self, rows, result=None, parameters=PARAMETERS, fields=FIELDS):
        with self.subTest(rows):
            kept = kept_of(method_text(rows, parameters, fields), "A")
            self.assertEqual(kept.face("go")[2], result)

    def check_misfit(self, rows, parameters=PARAMETERS, fields=FIELDS):
        """The last row is the first one that does not fit."""
        with self.subTest(rows), self.assertRaises(BadRow) as caught:
            kept_of(method_text(rows, parameters, fields), "A")
        error = caught.exception
        self.assertEqual((error.owner, error.method, error.at), ("A", "go", len(rows) - 1))

    def test_words(self):
        self.check_fits(["return p"], "[.]")
        self.check_fits(["return p"], ".", "p: .")
        self.check_fits(["x = p", "return x"], "[.]")
        self.check_fits(["x = p", "x = self.v", "return x"], ".")
        self.check_fits(["p = self.v", "return p"], ".")
        self.check_fits(["p = p[0]", "return p"], ".")
        self.check_misfit(["return x"])
        self.check_misfit(["x = x"])
        self.check_misfit(["y = p", "x = y", "return z"])
        self.check_misfit(["x[0] = p"])
        self.check_misfit(["p = p[0]", "x = p[0]"])
        self.check_misfit(["return a"])                        # a field is no word

    def test_words_of_other_kinds(self):
        for row in ("return i", "x = i", "x = copy(i)", "i[0] = p", "x = i[0]", "p[0] = i", "f(i)",
                    "return f", "x = f", "x = copy(f)", "f[0] = p", "x = f[0]", "f(f)"):
            self.check_misfit([row])

    def test_words_of_other_definitions(self):
        text = method_text(["x = p", "return x"], "p: .")
        with self.assertRaises(BadRow) as caught:
            kept_of(text + "\n    def gone():\n        return x", "A")
        self.assertEqual((caught.exception.method, caught.exception.at), ("gone", 0))
        with self.assertRaises(BadRow) as caught:
            kept_of(text + "\nclass B(A):\n    def go(q: .):\n        y = super(q)\n        return p", "B")
        self.assertEqual((caught.exception.owner, caught.exception.at), ("B", 1))

    def test_fields(self):
        self.check_fits(["return self.b"], "[[., .], .]")
        self.check_fits(["return self.v"], ".")
        self.check_misfit(["return self.x"])
        self.check_misfit(["self.x = p"])
        self.check_misfit(["return self.p"])
        self.check_misfit(["x = p", "return self.x"])

    def test_integer_items(self):
        self.check_fits(["return self.c[0]"], "[[.]]")
        self.check_fits(["return self.c[0][0]"], "[.]")
        self.check_fits(["return self.c[0][0][0]"], ".")
        self.check_fits(["return self.c[1]"], ".")
        self.check_fits(["return self.b[0]"], "[., .]")
        self.check_fits(["return p[2]"], "[.]", "p: [., ., [.]]")
        self.check_misfit(["return self.a[2]"])
        self.check_misfit(["return self.c[0][1]"])
        self.check_misfit(["return p[1]"])
        self.check_misfit(["return p[0][0]"])
        self.check_misfit(["return self.v[0]"])
        self.check_misfit(["return self.c[1][0]"])

    def test_word_items(self):
        self.check_fits(["return self.a[i]"], "[.]")
        self.check_fits(["return self.a[i][0]"], ".")
        self.check_fits(["return self.a[i][j]"], ".", "i: 2, j: 1")
        self.check_fits(["return p[i]"], ".", "p: [., ., [.]], i: 2")
        self.check_fits(["return p[i]"], ".", "p: [., ., .], i: 3")
        self.check_fits(["return p[i]"], ".", "p: [., [.]], i: 1")
        self.check_fits(["return p[i][i]"], ".", "p: [[., .], [., .]], i: 2")
        self.check_misfit(["return self.b[i]"])
        self.check_misfit(["return self.c[i]"])
        self.check_misfit(["return p[i]"])                     # two for a list with one item
        self.check_misfit(["return p[i]"], "p: [., .], i: 3")
        self.check_misfit(["return p[i]"], "p: [., ., [.]], i: 3")
        self.check_misfit(["return self.v[i]"])
        self.check_misfit(["return self.a[p]"])
        self.check_misfit(["return self.a[f]"])
        self.check_misfit(["return self.a[x]"])
        self.check_misfit(["return self.a[a]"])
        self.check_misfit(["return self.a[q]"], "q: .")
        self.check_misfit(["x = self.v", "return self.a[x]"])
        self.check_misfit(["self.b[i] = p"])

    def test_copies(self):
        self.check_fits(["return copy(self.c)"], "[[[.]], .]")
        for many in (1, 2, 3):
            self.check_fits([f"return copy(self.c, {many})"], "[[[.]], .]")
        self.check_fits(["return copy(self.a[i], 1)"], "[.]")
        self.check_misfit(["return copy(self.v)"])
        self.check_misfit(["return copy(self.v, 1)"])
        self.check_misfit(["return copy(p[0])"])
        self.check_misfit(["return copy(p, 2)"])
        self.check_misfit(["return copy(self.a, 3)"])
        self.check_misfit(["return copy(x)"])
        self.check_misfit(["return copy(self.c[1], 1)"])

    def test_copies_of_calls(self):
        self.check_fits(["return copy(f(p))"], "[[.], .]")
        self.check_fits(["return copy(f(p), 2)"], "[[.], .]")
        self.check_misfit(["return copy(f(p), 3)"])
        self.check_misfit(["x = copy(f(p))"], "p: [.], f: [.] -> .")
        self.check_misfit(["x = copy(f(p), 1)"], "p: [.], f: [.] -> .")
        self.check_misfit(["x = copy(f(p))"], "p: [.], f: [.] -> none")

    def test_new(self):
        self.check_fits(["return new ."], ".")
        self.check_fits(["return new [[.], .]"], "[[.], .]")
        self.check_fits(["self.b = new [[., .], .]", "self.v = new ."])

    def test_asks(self):
        self.check_fits(["f(p)"])
        self.check_fits(["return f(p)"], "[[.], .]")
        self.check_fits(["x = f(copy(p))", "return x[0]"], "[.]")
        self.check_fits(["x = f(new [.])", "f(x[0])"])
        self.check_fits(["f(p)"], None, "p: ., f: . -> none")
        self.check_fits(["return f(p)"], ".", "p: [[.]], f: [[.]] -> .")
        self.check_misfit(["f(self.v)"])
        self.check_misfit(["f(self.a)"])
        self.check_misfit(["f(new .)"])
        self.check_misfit(["f(x)"])
        self.check_misfit(["f(self.a[2])"])
        self.check_misfit(["x = f(p)", "f(x)"])
        self.check_misfit(["g(p)"])
        self.check_misfit(["p(p)"])
        self.check_misfit(["i(p)"])
        self.check_misfit(["x = p", "x(p)"])
        self.check_misfit(["a(p)"])

    def test_calls_without_a_shape(self):
        parameters = "p: [.], f: [.] -> none"
        self.check_fits(["f(p)"], None, parameters)
        for row in ("x = f(p)", "self.v = f(p)", "return f(p)", "return view f(p)", "x = copy(f(p), 1)"):
            self.check_misfit(["f(p)", row], parameters)

    def test_sides_of_unlike_shapes(self):
        self.check_fits(["self.a[i] = p", "self.a = new [[.], [.]]", "self.a[1][0] = self.v", "self.v = p[0]"])
        self.check_fits(["p[0] = self.v", "self.c[0] = copy(self.c[0])", "x = new [[.]]", "x[0] = p", "self.c[0] = x"])
        self.check_misfit(["self.a[0] = self.v"])
        self.check_misfit(["self.a = self.b"])
        self.check_misfit(["self.v = p"])
        self.check_misfit(["p[0] = p"])
        self.check_misfit(["self.b[0] = p"])
        self.check_misfit(["self.b[1] = p"])
        self.check_misfit(["self.a[i] = f(p)"])
        self.check_misfit(["self.v[0] = self.v"])
        self.check_misfit(["self.a[2] = p"])
        self.check_misfit(["self.a = new [[.], [.], [.]]"])

    def test_returns(self):
        self.check_fits(["return view p"], ("view", "[.]"))
        self.check_fits(["return view copy(self.a, 1)"], ("view", "[[.], [.]]"))
        self.check_fits(["return view f(p)"], ("view", "[[.], .]"))
        self.check_fits(["return view new [.]"], ("view", "[.]"))
        self.check_fits(["x = p"])
        self.check_fits([])
        self.check_misfit(["return view self.v"])
        self.check_misfit(["return view p[0]"])
        self.check_misfit(["return view new ."])
        self.check_misfit(["return view f(p)"], "p: [.], f: [.] -> .")
        self.check_misfit(["return view i"])

    def test_super_in_a_last_definition(self):
        for row in ("super()", "super(p, i, f)", "x = super()", "return super()", "return copy(super(p, i, f), 1)"):
            self.check_misfit([row])
        text = "class A:\n    def go():\nclass B:\n    def go():\n        super()\nclass C(B, A):"
        with self.assertRaises(BadRow) as caught:
            kept_of(text, "B")
        self.assertEqual((caught.exception.owner, caught.exception.method, caught.exception.at), ("B", "go", 0))
        self.assertEqual(kept_of(text, "C").owners("go"), ["B", "A"])


class SuperTests(unittest.TestCase):
    """Rows with `super` in a class B below a class A."""

    def text(self, row, parameters, above="", above_row=None):
        lines = ["class A:", "    a: [[.], [.]]", "    v: .", f"    def go({above or parameters}):"]
        lines += [f"        {above_row}"] if above_row else []
        return "\n".join(lines + ["class B(A):", f"    def go({parameters}):", "        x = new [.]", f"        {row}"])

    def check_fits(self, row, *rest, result=None):
        with self.subTest(row=row, rest=rest):
            self.assertEqual(kept_of(self.text(row, *rest), "B").face("go")[2], result)

    def check_misfit(self, row, *rest):
        with self.subTest(row=row, rest=rest), self.assertRaises(BadRow) as caught:
            kept_of(self.text(row, *rest), "B")
        self.assertEqual((caught.exception.owner, caught.exception.method, caught.exception.at), ("B", "go", 1))

    def test_number_of_arguments(self):
        self.check_fits("super()", "")
        self.check_misfit("super(x)", "")
        self.check_misfit("super()", "p: [.]")
        self.check_misfit("super(p, p)", "p: [.]")
        self.check_fits("super(q, p)", "p: [.], q: [.]")
        self.check_misfit("super(p)", "p: [.], q: [.]")
        self.check_misfit("super(p, q, p)", "p: [.], q: [.]")
        self.check_misfit("super(p, " + "p, " * 200 + "q)", "p: [.], q: [.]")

    def test_lists_and_plain_values(self):
        for argument in ("p", "x", "copy(p)", "copy(p, 1)", "new [.]", "self.a[1]", "copy(self.a[0])"):
            self.check_fits(f"super({argument})", "p: [.]")
        for argument in ("y", "p[0]", "self.a", "self.v", "new .", "new [., .]", "copy(p, 2)", "copy(self.a)", "0", "1",
                         "self.a[2]", "self.b", "wrap(p, 0, 0)", "go"):
            self.check_misfit(f"super({argument})", "p: [.]")
        for argument in ("p", "x[0]", "self.v", "new .", "self.a[0][0]"):
            self.check_fits(f"super({argument})", "p: .")
        for argument in ("x", "0", "copy(p)", "p[0]", "wrap(p, 0, 0)", "self.a[0]"):
            self.check_misfit(f"super({argument})", "p: .")
        self.check_misfit("super(p, i)", "p: ., i: 1", "q: ., p: .")
        self.check_misfit("super(p, f)", "p: ., f: . -> .", "q: ., p: .")

    def test_indexes(self):
        for argument in ("0", "1", "i"):
            self.check_fits(f"super({argument})", "i: 2")
        for argument in ("2", "x", "self.v", "new .", "i[0]", "self.i", "copy(i)", "wrap(i, 0, 0)", "y", "x[0]"):
            self.check_misfit(f"super({argument})", "i: 2")
        self.check_fits("super(0)", "i: 1")
        self.check_misfit("super(1)", "i: 1")
        self.check_fits("super(2)", "i: 3")
        self.check_fits("super(j, i)", "i: 2, j: 2")
        self.check_fits("super(i, i)", "i: 2, j: 3")
        self.check_fits("super(1, 2)", "i: 2, j: 3")
        self.check_misfit("super(j, i)", "i: 2, j: 3")
        self.check_misfit("super(2, i)", "i: 2, j: 3")
        self.check_misfit("super(v, f)", "v: ., f: . -> .", "v: ., f: 2")

    def test_functions(self):
        parameters = "f: [.] -> [[.], .], g: [.] -> [[.], .], h: [.] -> none"
        self.check_fits("super(f, g, h)", parameters)
        self.check_fits("super(g, g, h)", parameters)
        self.check_fits("super(wrap(f, 1, 2), wrap(g, 0, 0), wrap(h, 1, 0))", parameters)
        self.check_fits("super(g, wrap(g, 0, 1), wrap(h, 0, 0))", parameters)
        for arguments in ("h, g, h", "f, g, f", "f, g, x", "f, g, 0", "f, g, new [.]", "f, g, copy(h)", "f, g, self.v",
                          "f, g, self.h", "f, g, h[0]", "f, g, y", "f, g, go", "wrap(f, 2, 0), g, h",
                          "wrap(f, 0, 3), g, h", "f, g, wrap(h, 0, 1)", "f, g, wrap(h, 2, 0)", "wrap(h, 0, 0), g, h",
                          "f, g, wrap(f, 0, 0)", "wrap(x, 0, 0), g, h", "wrap(y, 0, 0), g, h", "f, wrap(g, 3, 3), h"):
            self.check_misfit(f"super({arguments})", parameters)
        self.check_fits("super(wrap(f, 0, 0))", "f: . -> .")
        self.check_misfit("super(wrap(f, 1, 0))", "f: . -> .")
        self.check_misfit("super(wrap(f, 0, 1))", "f: . -> .")
        self.check_fits("super(wrap(f, 3, 0))", "f: [[[.]]] -> .")
        self.check_fits("super(wrap(f, 0, 3))", "f: . -> [[[.]]]")
        self.check_misfit("super(wrap(i, 0, 0))", "i: 1", "i: . -> .")

    def test_shape_of_super(self):
        for last, shape in (("return self.a", "[[.], [.]]"), ("return view self.a", "[[.], [.]]"),
                            ("return self.v", "."), ("return view new [.]", "[.]")):
            view = shape if "view" not in last else ("view", shape)
            word = "return view" if "view" in last else "return"
            self.check_fits(f"{word} super()", "", "", last, result=view)
        self.check_fits("return copy(super())", "", "", "return self.a", result="[[.], [.]]")
        self.check_fits("return copy(super(), 2)", "", "", "return self.a", result="[[.], [.]]")
        self.check_fits("return view copy(super(p), 1)", "p: .", "", "return view self.a",
                        result=("view", "[[.], [.]]"))
        self.check_misfit("return copy(super(), 3)", "", "", "return self.a")
        self.check_misfit("return copy(super())", "", "", "return self.v")
        self.check_misfit("return view super()", "", "", "return self.v")
        self.check_misfit("self.v = super()", "", "", "return self.a")
        self.check_misfit("self.a = super()", "", "", "return self.v")

    def test_next_definition_that_returns_nothing(self):
        self.check_fits("super()", "")
        for row in ("x = super()", "self.a = super()", "return super()", "return view super()", "x = copy(super(), 1)"):
            self.check_misfit(row, "")

    def test_value_of_super_may_be_dropped_or_set(self):
        text = self.text("super()\n        return self.a", "", "", "return self.a")
        self.assertEqual(kept_of(text, "B").face("go"), ("def", (), "[[.], [.]]"))
        text = self.text("self.a = super()\n        y = self.a[0]\n        return self.a", "", "", "return self.a")
        self.assertEqual(kept_of(text, "B").face("go"), ("def", (), "[[.], [.]]"))

    def test_super_runs_the_next_definition_of_the_order(self):
        text = ("class A:\n    def go(p: .):\nclass B(A):\nclass C(A):\n    def go(p: .):\n        super(p)\n"
                "class D(B, C):\n    def go(p: .):\n        super(new .)")
        self.assertEqual(kept_of(text, "D").owners("go"), ["D", "C", "A"])
