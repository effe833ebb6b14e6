"""Shapes (point 4 and the interface of handedcopies/shapes.py)."""

import unittest
from itertools import product

from handedcopies.errors import BadShape
from handedcopies.shapes import Shape
from tests.samples import STRANGE_VALUES

RIGHT = {
    # text: (depth, lists, items)
    ".": (0, 0, []),
    "[.]": (1, 1, ["."]),
    "[., .]": (1, 1, [".", "."]),
    "[., ., .]": (1, 1, [".", ".", "."]),
    "[[.], [., .]]": (2, 3, ["[.]", "[., .]"]),
    "[[.], .]": (2, 2, ["[.]", "."]),
    "[[[.]]]": (3, 3, ["[[.]]"]),
    "[., [., [.]], .]": (3, 3, [".", "[., [.]]", "."]),
    "[[[., ., .], [.]], [.]]": (3, 5, ["[[., ., .], [.]]", "[.]"]),
    "[[[.], [.], [.]]]": (3, 5, ["[[.], [.], [.]]"]),
}
WRONG = (
    "", " ", "..", "[]", "[", "]", "][", ". ", " .", "[.", ".]", "[. ]", "[ .]", "[.,.]", "[.,  .]", "[., ]", "[, .]",
    "[.],[.]", "[.], [.]", "., .", "[.]]", "[[.]", "[.] ", "(.)", "[x]", "[1]", "1", "none", "[.]\n", "\n.", "[., [.]",
    "[., ., ., .]",                    # four items
    "[[., ., ., .]]",
    "[[[[.]]]]",                       # depth 4
    "[., [[[.]]]]",
    "[[.], [.], [[.], [.]]]",          # six lists
    "[[[.], [.], [.]], [.]]",
    "[[.][.]]", "[[.], [.]], [.]", "].[", "[.], [.", "].], [.[",
)


def small_shapes(depth):
    """All texts in brackets of at most this depth and two items, with no regard to the number of lists."""
    if depth == 0:
        return ["."]
    below = small_shapes(depth - 1)
    return ["."] + [f"[{', '.join(items)}]" for many in (1, 2) for items in product(below, repeat=many)]


class ShapeTests(unittest.TestCase):
    def test_right_shapes(self):
        for text, (depth, lists, items) in RIGHT.items():
            with self.subTest(text):
                shape = Shape(text)
                self.assertEqual((shape.text, shape.depth, shape.lists), (text, depth, lists))
                self.assertEqual(len(shape), len(items))
                self.assertEqual([item.text for item in shape], items)
                self.assertEqual([shape[at].text for at in range(len(shape))], items)
                self.assertTrue(all(isinstance(item, Shape) for item in shape))
                self.assertEqual((str(shape), repr(shape)), (text, f"Shape({text})"))

    def test_items_of_items(self):
        shape = Shape("[[[., ., .], [.]], [.]]")
        self.assertEqual((shape[0][0].text, shape[0].depth, shape[0].lists), ("[., ., .]", 2, 3))
        self.assertEqual(len(shape[0][0][2]), 0)

    def test_wrong_texts(self):
        for text in WRONG:
            with self.subTest(text), self.assertRaises(BadShape) as caught:
                Shape(text)
            self.assertEqual(caught.exception.text, text)

    def test_any_value(self):
        for value in STRANGE_VALUES + (["."], (".",), ("[", ".", "]")):
            with self.subTest(str(value)[:40]), self.assertRaises(BadShape) as caught:
                Shape(value)
            self.assertIs(caught.exception.text, value)

    def test_bounds_decide_alone(self):
        for text in small_shapes(3):
            if text.count("[") <= 5:
                self.assertEqual(Shape(text).text, text)
            else:
                with self.assertRaises(BadShape):
                    Shape(text)

    def test_one_wrong_sign(self):
        known = {text: True for text in small_shapes(3)}
        text = "[[.], [., [.]]]"
        for at, sign in product(range(len(text)), "[]., x"):
            for changed in (text[:at] + sign + text[at:], text[:at] + sign + text[at + 1:], text[:at] + text[at + 1:]):
                if changed not in known and changed.count(".") < 4:
                    with self.subTest(changed), self.assertRaises(BadShape):
                        Shape(changed)

    def test_equality(self):
        self.assertEqual(Shape("[[.], .]")[0], Shape("[.]"))
        self.assertFalse(Shape("[.]") != Shape("[.]"))
        self.assertNotEqual(Shape("[.]"), Shape("[., .]"))
        for other in ("[.]", ["."], (), None, True, 1):
            self.assertNotEqual(Shape("[.]"), other)

    def test_keywords(self):
        self.assertEqual(Shape(text=".").text, ".")
