"""Words, lines and bounds of a text (points 5 to 8), by the index in BadLine."""

import re
import unittest

from handedcopies.errors import BadLine
from handedcopies.families import Library
from tests.samples import SHELF, STRANGE_VALUES, method_text

RESERVED = "class def enter exit return view copy new super wrap self none seen outside".split()

RIGHT_ROWS = (
    "a = b", "a[0] = b", "a[1][2] = b", "a[i] = b", "a[i][0][j] = b", "self.a = b", "self.a[2][1][0] = b[0][1][2]",
    "a = self.b", "a = copy(b)", "a = copy(b, 1)", "a = copy(self.b[i][0], 2)", "a = copy(b, 3)", "a = new .",
    "a = new [[.], [., .]]", "a = f(b)", "a = f(self.b[0])", "a = f(copy(b))", "a = f(copy(b, 1))", "a = f(new [.])",
    "a = copy(f(b))", "a = copy(f(copy(b, 2)), 1)", "a = super()", "a = super(b)", "a = super(0, 1, 2)",
    "a = super(b, copy(c, 1), new [., .], wrap(f, 0, 3), wrap(g, 3, 0), self.d[0])", "a = copy(super())",
    "a = copy(super(b, new [[., .], .]), 3)", "f(b)", "f(new .)", "super()", "super(0)", "return a", "return self.a[0]",
    "return copy(a)", "return new [.]", "return f(a)", "return copy(super(a), 2)", "return view a", "return view f(a)",
    "return view copy(self.a, 1)", "return view super(a)", "return new .", "return view new [.]", "abcdefgh = x",
    "returns = x", "news = x", "x = selfs", "x = views", "superb(x)", "copyx(x)",
)
WRONG_ROWS = (
    "", " ", "a", "self.a", "a = ", " = a", "a =b", "a= b", "a  = b", "a = b ", " a = b", "a == b", "a = b = c",
    "a = b, c", "a = 1", "a = 0", "a[3] = b", "a[00] = b", "a[-1] = b", "a[] = b", "a[0 = b", "a0] = b", "a[0]] = b",
    "a[0]b = c", "a[[0]] = b", "a[b[0]] = c", "a[self.b] = c", "a[0][0][0][0] = b", "a = b[0][0][0][0]", "self = a",
    "self. = a", "self.self.a = b", "self.a.b = c", "a.b = c", "self[0] = a", "A = b", "a = B", "abcdefghi = x",
    "x = self.abcdefghi", "a1 = b", "a_b = c", "copy(a) = b", "new . = a", "f(a) = b", "super() = a", "(a) = b",
    "a = (b)", "a = copy()", "a = copy(b, 0)", "a = copy(b, 4)", "a = copy(b,1)", "a = copy(b, 1, 1)", "a = copy(b, k)",
    "a = copy(copy(b))", "a = copy(new [.])", "a = copy(1)", "a = copy(b) ", "a = copy (b)", "a = copy(b", "a = copy b",
    "a = new", "a = new ", "a = new x", "a = new [x]", "a = new [[[[.]]]]", "a = new [., ., ., .]", "a = new  [.]",
    "a = new [[.], [.], [[.], [.]]]", "a = f()", "a = f(b, c)", "a = f(0)", "a = f(g(b))", "a = f(super())",
    "a = f(wrap(g, 0, 0))", "a = f(b) ", "a = f (b)", "a = f(b))", "a = f((b)", "a = self.f(b)", "a = f[0](b)",
    "copy(a)", "copy(f(a))", "new [.]", "view a", "wrap(f, 0, 0)", "a = wrap(f, 0, 0)", "return", "return ",
    "return  a", "return view", "return view ", "return view view a", "return a = b", "return view a = b", "returna",
    "return 0", "return copy(a) b", "super", "super(", "super)", "super( )", "super(a,b)", "super(a, )", "super(, a)",
    "super(a, , b)", "super(3)", "super(-1)", "super(super())", "super(f(a))", "super(copy(f(a)))", "super(a))",
    "super(wrap(f, 0))", "super(wrap(f, 0, 4))", "super(wrap(f, 4, 0))", "super(wrap(f, 0, 0, 0))", "super(wrap())",
    "super(wrap(f,0,0))", "super(wrap(self.f, 0, 0))", "super(wrap(f, a, 0))", "super(wrap(f, , 0))",
    "super(wrap(f, 01, 0))", "super(wrap(wrap(f, 0, 0), 0, 0))", "super(wrap(f, 0, 0)", "super(new x)", "super(00)",
    "enter = a", "a = exit", "a = none", "seen(a)", "a = outside", "def(a)", "pass", "a = b # c", "a += b",
    "super(wrap(",
)
RIGHT_PARAMETERS = (
    "", "a: .", "a: [.]", "a: [[.], [., .]]", "a: 1", "a: 2", "a: 3", "a: . -> .", "a: [.] -> none",
    "a: . -> [., .]", "a: [., .] -> [[.], .]", "a: ., b: 1, c: . -> none", "a: [., .], b: [., ., .], c: [[.], [.]]",
    "abcdefgh: .", "go: .",
)
WRONG_PARAMETERS = (
    " ", "a", "a:", "a: ", "a:.", "a : .", " a: .", "a: . ", "a: 0", "a: 4", "a: 01", "a: -1", "a: none", "a: x",
    "a: []", "a: [[[[.]]]]", "a: . ->", "a: . -> ", "a: .->.", "a:  . -> .", "a: . -> 1", "a: 1 -> .", "a: none -> .",
    "a: . -> none ", "a: . -> . -> .", "a: -> .", "a: .,b: .", "a: .,  b: .", "a: ., ", ", a: .", "A: .", "a1: .",
    "self: .", "copy: .", "abcdefghi: .", "a: ., b: ., c: ., d: .", "a: 1, a: .", "a: ., b: ., a: . -> .", "a: .)",
    "self.a: .", "a = .", "a: .: .",
)

WORD = f"(?!(?:{'|'.join(RESERVED)})(?![a-z]))[a-z]{{1,8}}(?![a-z])"
PATH = rf"(?:self\.)?{WORD}(?:\[(?:[012]|{WORD})\]){{0,3}}"
SHAPE = r"\."     # the number of lists is left out: no row here has as many
for _ in range(3):
    SHAPE = rf"(?:\.|\[{SHAPE}(?:, {SHAPE}){{0,2}}\])"
SIMPLE = rf"(?:{PATH}|copy\({PATH}(?:, [123])?\)|new {SHAPE})"
ARGUMENT = rf"(?:[012]|{SIMPLE}|wrap\({WORD}, [0-3], [0-3]\))"
CALL = rf"(?:{WORD}\({SIMPLE}\)|super\((?:{ARGUMENT}(?:, {ARGUMENT})*)?\))"
TERM = rf"(?:{SIMPLE}|{CALL}|copy\({CALL}(?:, [123])?\))"
ROW = re.compile(rf"(?:{PATH} = {TERM}|{CALL}|return (?:view )?{TERM})\Z")


def wrong_line(text):
    """The index of the first wrong line, or None."""
    try:
        Library(text)
    except BadLine as error:
        return error.at
    return None


def one_sign_off(row):
    """The strings that differ from a row by one sign."""
    signs = "a0 .,[]()=Av1"
    for at in range(len(row) + 1):
        yield row[:at] + row[at + 1:]
        for sign in signs:
            yield row[:at] + sign + row[at:]
            yield row[:at] + sign + row[at + 1:]


class FormTests(unittest.TestCase):
    def check_lines(self, cases):
        for text, at in cases:
            with self.subTest(text):
                self.assertEqual(wrong_line(text), at)

    def test_right_rows(self):
        for row in RIGHT_ROWS:
            with self.subTest(row):
                self.assertIsNone(wrong_line(method_text([row])))

    def test_wrong_rows(self):
        for row in WRONG_ROWS:
            with self.subTest(row):
                self.assertEqual(wrong_line(method_text([row])), 2)

    def test_rows_that_are_one_sign_off(self):
        for row in RIGHT_ROWS:
            for changed in one_sign_off(row):
                expected = None if ROW.match(changed) else 2
                if wrong_line(method_text([changed])) != expected:
                    self.fail(f"{changed!r} should be {'wrong' if expected else 'right'}")

    def test_parameters(self):
        for parameters in RIGHT_PARAMETERS:
            with self.subTest(parameters):
                self.assertIsNone(wrong_line(method_text([], parameters)))
        for parameters in WRONG_PARAMETERS:
            with self.subTest(parameters):
                self.assertEqual(wrong_line(method_text([], parameters)), 1)

    def test_words(self):
        for word in ("a", "z", "abcdefgh", "classes", "selfs", "nones", "rows"):
            for line in (f"    {word}: .", f"    def {word}():", f"    enter {word}():", f"    exit a({word}: 1):"):
                with self.subTest(line):
                    self.assertIsNone(wrong_line("class A:\n" + line))
        for word in ["", "abcdefghi", "A", "aB", "a1", "a_b", "a b", "a.", "-", "self.a"] + RESERVED:
            for line in (f"    {word}: .", f"    def {word}():", f"    def a({word}: .):", f"    exit {word}():"):
                with self.subTest(line):
                    self.assertEqual(wrong_line("class A:\n" + line), 1)
            for row in (f"{word} = new .", f"self.{word} = new .", f"{word}(x)", f"x[{word}] = y", f"x = y[{word}]"):
                right = row in ("self.a = new .", "super(x)")
                with self.subTest(row):
                    self.assertEqual(wrong_line(method_text([row])), None if right else 2)

    def test_class_names(self):
        for name in ("A", "Z", "Abcdefgh", "Self", "Class", "None"):
            with self.subTest(name):
                self.assertIsNone(wrong_line(f"class {name}:"))
        for name in ("", "a", "Abcdefghi", "AB", "A1", "A_", "aA", " A", "A ", "1", "A.B", "A:"):
            with self.subTest(name):
                self.assertEqual(wrong_line(f"class {name}:"), 0)
                self.assertEqual(wrong_line(f"class A:\nclass {name}(A):"), 1)

    def test_class_lines(self):
        self.check_lines([
            ("class A", 0), ("class Ab", 0), ("class A:  ", 0), (" class A:", 0), ("Class A:", 0), ("class  A:", 0),
            ("class:", 0),
            ("class A():", 0), ("class A(:", 0), ("class A):", 0), ("A:", 0), ("def go():", 0), ("rows: [.]", 0),
            ("class A:\nclass B(A):", None), ("class A:\nclass B(A:", 1), ("class A:\nclass B(A)):", 1),
            ("class A:\nclass B(Ab:", 1),
            ("class A:\nclass B((A)):", 1), ("class A:\nclass B(A,):", 1), ("class A:\nclass B(A, ):", 1),
            ("class A:\nclass B:\nclass C(A, B):", None), ("class A:\nclass B:\nclass C(A,B):", 2),
            ("class A:\nclass B:\nclass C(A,  B):", 2), ("class A:\nclass B (A):", 1),
        ])

    def test_field_and_method_lines(self):
        head = "class A:\n"
        self.check_lines([
            (head + "    a: [[.], [., .]]", None), (head + "    a: [[[[.]]]]", 1), (head + "    a: 1", 1),
            (head + "    a: . -> .", 1), (head + "    a:.", 1), (head + "    a : .", 1), (head + "    a: . ", 1),
            (head + "   a: .", 1), (head + "     a: .", 1), (head + "a: .", 1), (head + "    a", 1), (head + "    ", 1),
            (head + "    def go()", 1), (head + "    def go:", 1), (head + "    def go(:", 1),
            (head + "    def go):", 1),
            (head + "    def  go():", 1), (head + "    def go ():", 1), (head + "    def go():  ", 1),
            (head + "    def():", 1), (head + "    go():", 1), (head + "    view go():", 1), (head + "def go():", 1),
            (head + "     def go():", 1), (head + "        def go():", 1), (head + "    def", 1),
            (head + "    def ", 1),
            (head + "    pass", 1), (head + "    def go()::", 1), (head + "    def go(()):", 1),
        ])

    def test_blanks_before_rows(self):
        for many in (0, 1, 4, 7, 9, 12):
            with self.subTest(many):
                self.assertEqual(wrong_line("class A:\n    def go():\n" + " " * many + "a = new ."), 2)

    def test_any_value(self):
        for value in STRANGE_VALUES:
            if not isinstance(value, str):
                with self.subTest(str(value)[:40]):
                    self.assertEqual(wrong_line(value), -1)
            elif value != "":
                with self.subTest(value[:40]):
                    self.assertEqual(wrong_line(value), 0)
        for value in (["class A:"], ("class A:",), [SHELF], [[], ()]):
            self.assertEqual(wrong_line(value), -1)

    def test_long_lines(self):
        for row in ("super(" + "a, " * 30000 + "a)", "super(" + "a, " * 33000 + ")", "copy(" * 20000, "f(" * 40000,
                    "a = " + "b" * 99000, "a" + "[0]" * 30000 + " = b", "a = new " + "[" * 90000, "(((]]]" * 15000):
            right = row.startswith("super") and row.endswith("a)")
            with self.subTest(row[:20]):
                self.assertEqual(wrong_line(method_text([row])), None if right else 2)


class PlaceTests(unittest.TestCase):
    def check(self, at, *lines):
        with self.subTest(lines):
            self.assertEqual(wrong_line("\n".join(lines)), at)

    def test_lines_without_a_class_or_a_method(self):
        self.check(0, "    a: .")
        self.check(0, "    def go():")
        self.check(0, "        a = new .")
        self.check(1, "class A:", "        a = new .")
        self.check(2, "class A:", "    a: .", "        a = new .")
        self.check(3, "class A:", "    def go():", "class B:", "        a = new .")
        self.check(4, "class A:", "    def go():", "class B(A):", "    b: .", "        a = new .")

    def test_fields_stand_above_methods(self):
        self.check(2, "class A:", "    def go():", "    a: .")
        self.check(3, "class A:", "    def go():", "        a = new .", "    a: .")
        self.check(None, "class A:", "    def go():", "class B:", "    a: .")

    def test_return_is_the_last_row(self):
        for last in ("return new .", "return view new [.]", "return super()"):
            self.check(3, "class A:", "    def go():", "        " + last, "        a = new .")
            self.check(3, "class A:", "    def go():", "        " + last, "        return new .")
            self.check(4, "class A:", "    def go():", "        a = new .", "        " + last, "        a = new .")
            self.check(None, "class A:", "    def go():", "        " + last, "    def gone():", "        a = new .")

    def test_words_that_cannot_be_bound(self):
        for parameters in ("i: 1", "i: . -> .", "a: ., i: [.] -> none", "i: 3, a: ."):
            self.assertEqual(wrong_line(method_text(["a = new .", "i = new ."], parameters)), 3)
            self.assertIsNone(wrong_line(method_text(["i[0] = new .", "self.i = new ."], parameters)))
        self.check(None, "class A:", "    def go(i: 1):", "    def gone():", "        i = new .")
        self.assertIsNone(wrong_line(method_text(["a = new .", "b = new ."], "a: ., b: [.]")))

    def test_super_stands_in_one_row(self):
        rows = ("super()", "a = super(b)", "a = copy(super(), 1)", "return super()", "return view copy(super())")
        for first in rows[:3]:
            for second in rows:
                self.assertEqual(wrong_line(method_text([first, "a = new .", second])), 4)
        self.check(None, "class A:", "    def go():", "        super()", "    def gone():", "        super()")

    def test_names_that_stand_twice(self):
        self.check(2, "class A:", "    a: .", "    a: [.]")
        self.check(3, "class A:", "    a: .", "    b: .", "    a: .")
        self.check(3, "class A:", "    def go():", "        x = new .", "    def go():")
        self.check(2, "class A:", "    def go():", "    enter go(a: .):")
        self.check(1, "class A:", "    def go(a: ., a: 1):")
        self.check(1, "class A:", "class A:")
        self.check(2, "class A:", "class B(A):", "class A(B):")

    def test_names_that_may_be_shared(self):
        self.check(None, "class A:", "    a: .", "    def a(a: .):", "        a = a", "class B(A):", "    a: .",
                   "    def a(a: .):", "        super(a)")
        self.check(None, "class A:", "    def go(a: .):", "    def gone(a: .):")

    def test_bases(self):
        self.check(0, "class A(B):", "class B:")
        self.check(0, "class A(A):")
        self.check(1, "class A:", "class B(A, C):")
        self.check(1, "class A:", "class B(A, A):")
        self.check(2, "class A:", "class B:", "class C(A, B, A):")
        self.check(1, "class A:", "class B(a):")

    def test_one_to_three_bases(self):
        heads = [f"class {name}:" for name in "ABCD"]
        for many in (1, 2, 3):
            self.check(None, *heads, f"class E({', '.join('ABCD'[:many])}):")
        self.check(4, *heads, "class E(A, B, C, D):")

    def test_class_without_an_order(self):
        self.check(2, "class A:", "class B(A):", "class C(A, B):")
        self.check(4, "class A:", "class B:", "class C(A, B):", "class D(B, A):", "class E(C, D):")
        self.check(2, "class A:", "class B(A):", "class C(A, B):", "    wrong")

    def test_eight_classes(self):
        heads = [f"class {name}:" for name in "ABCDEFGHI"]
        self.check(None, *heads[:8])
        self.check(8, *heads)

    def test_four_fields(self):
        fields = [f"    {word}: ." for word in "abcde"]
        self.check(None, "class A:", *fields[:4])
        self.check(5, "class A:", *fields)
        self.check(None, "class A:", *fields[:4], "class B(A):", *fields[:4])

    def test_five_methods(self):
        methods = [f"    def {word}():" for word in "abcdef"]
        self.check(None, "class A:", *methods[:5])
        self.check(6, "class A:", *methods)
        self.check(None, "class A:", *methods[:5], "class B:", *methods[1:])

    def test_three_parameters(self):
        self.check(None, "class A:", "    def go(a: ., b: [., ., .], c: . -> .):")
        self.check(1, "class A:", "    def go(a: ., b: ., c: ., d: .):")

    def test_six_rows(self):
        row = "        a = new ."
        self.check(None, "class A:", "    def go():", *[row] * 6)
        self.check(8, "class A:", "    def go():", *[row] * 7)
        self.check(8, "class A:", "    def go():", *[row] * 6, "        return a")
        self.check(None, "class A:", "    def go():", *[row] * 5, "        return a", "    def gone():", *[row] * 6)

    def test_empty_lines(self):
        self.check(None, "")
        self.check(0, "", "")
        self.check(0, "", "class A:")
        self.check(1, "class A:", "")
        self.check(1, "class A:", "", "    a: .")
        self.check(1, "class A:", "    ", "    a: .")
        self.assertEqual(wrong_line(SHELF + "\n"), 9)

    def test_first_wrong_line_counts(self):
        self.check(1, "class A:", "    wrong", "class A:", "wrong")
        self.check(2, "class A:", "    def go(i: 1):", "        i = x", "        wrong")
        self.check(0, "class a:", "class A(B):", "", "wrong")
        self.check(3, "class A:", "    a: .", "    b: .", "    a: .", "    b: .", "class A:")


class LibraryTests(unittest.TestCase):
    def test_shelf(self):
        library = Library(SHELF)
        self.assertEqual(library.names, ("Shelf", "Guarded"))
        self.assertEqual((len(library), list(library), str(library)), (2, ["Shelf", "Guarded"], SHELF))

    def test_empty_text(self):
        library = Library("")
        self.assertEqual((library.names, len(library), list(library), str(library)), ((), 0, [], ""))

    def test_contains(self):
        library = Library(SHELF)
        self.assertTrue("Shelf" in library and "Guarded" in library)
        for value in STRANGE_VALUES + ("shelf", "Shel", "rows", "Shelf ", ["Shelf"], ("Shelf", "Guarded")):
            self.assertIs(value in library, False)

    def test_equality(self):
        self.assertEqual(Library(SHELF), Library(SHELF))
        self.assertNotEqual(Library("class A:"), Library("class B:"))
        self.assertNotEqual(Library("class A:\n    a: .\n    b: ."), Library("class A:\n    b: .\n    a: ."))
        for other in (SHELF, ("Shelf", "Guarded"), None, True, []):
            self.assertNotEqual(Library(SHELF), other)

    def test_of(self):
        self.assertEqual(str(Library.of()), "")
        self.assertEqual(str(Library.of("")), "")
        self.assertEqual(str(Library.of("", "", "")), "")
        self.assertEqual(Library.of(SHELF), Library(SHELF))
        self.assertEqual(str(Library.of("", "class A:", "", "class B(A):\n    a: .", "")),
                         "class A:\nclass B(A):\n    a: .")
        self.assertEqual(Library.of(SHELF, "class Last(Guarded):").names, ("Shelf", "Guarded", "Last"))
        self.assertIsInstance(Library.of(), Library)

    def test_of_reads_the_joined_text_alone(self):
        parts = ("class A:", "    def go():", "        a = new .", "        return a")
        self.assertEqual(Library.of(*parts), Library("\n".join(parts)))
        for texts, at in [(("class A:", "class A:"), 1), (("class A:\n", "class B:"), 1), ((SHELF, "", "x"), 9),
                          (("\n",), 0), (("class A:", "", "\n"), 1)]:
            with self.subTest(texts), self.assertRaises(BadLine) as caught:
                Library.of(*texts)
            self.assertEqual(caught.exception.at, at)
