"""Orders of classes (point 9)."""

import unittest
from itertools import combinations, permutations, product

from handedcopies.errors import BadLine, NoClass
from handedcopies.families import Library
from tests.samples import SHELF, STRANGE_VALUES


def python_order(bases):
    """The order that Python gives the last of some classes, or None; bases is a dict of names."""
    made = {}
    for name, above in bases.items():
        try:
            made[name] = type(name, tuple(made[base] for base in above), {})
        except TypeError:
            return None
    return [part.__name__ for part in made[name].__mro__[:-1]]


def text_of(bases):
    """The text of classes without anything below them."""
    heads = [f"class {name}({', '.join(above)}):" if above else f"class {name}:" for name, above in bases.items()]
    return "\n".join(heads)


class OrderTests(unittest.TestCase):
    def check(self, bases, expected):
        with self.subTest(bases):
            self.assertEqual(Library(text_of(bases)).order(list(bases)[-1]), expected)

    def test_orders(self):
        self.check({"A": ""}, ["A"])
        self.check({"A": "", "B": "A", "C": "B"}, ["C", "B", "A"])
        self.check({"A": "", "B": "", "C": "BA"}, ["C", "B", "A"])
        self.check({"A": "", "B": "A", "C": "A", "D": "BC"}, ["D", "B", "C", "A"])
        self.check({"A": "", "B": "A", "C": "BA"}, ["C", "B", "A"])
        self.check({"A": "", "B": "", "C": "", "D": "AB", "E": "CB", "F": "DE"}, ["F", "D", "A", "E", "C", "B"])
        self.check({"A": "", "B": "", "C": "", "D": "CAB"}, ["D", "C", "A", "B"])

    def test_every_class_has_its_order(self):
        library = Library(SHELF)
        self.assertEqual(library.order("Guarded"), ["Guarded", "Shelf"])
        self.assertEqual(library.order("Shelf"), ["Shelf"])

    def test_all_small_families_are_as_in_python(self):
        choices = [
            [list(row) for many in range(min(3, at) + 1) for chosen in combinations("ABCDE"[:at], many)
             for row in permutations(chosen)]
            for at in range(4)
        ]
        refused = 0
        for above in product(*choices):
            bases = dict(zip("ABCD", above))
            expected = python_order(bases)
            if expected is None:
                refused += 1
                with self.subTest(bases), self.assertRaises(BadLine):
                    Library(text_of(bases))
            else:
                self.check(bases, expected)
        self.assertGreater(refused, 0)

    def test_index_of_a_class_without_an_order(self):
        bases = {"A": "", "B": "", "C": "AB", "D": "BA", "E": "CD", "F": ""}
        with self.assertRaises(BadLine) as caught:
            Library(text_of(bases))
        self.assertEqual(caught.exception.at, 4)

    def test_order_is_a_new_list(self):
        library = Library(SHELF)
        order = library.order("Guarded")
        self.assertIs(type(order), list)
        order.clear()
        self.assertEqual(library.order("Guarded"), ["Guarded", "Shelf"])

    def test_no_class(self):
        library = Library(SHELF)
        for name in STRANGE_VALUES + ("shelf", "rows", "Guarde", ["Shelf"], ("Shelf",), ("Shelf", "Guarded")):
            for asked in (library.order, library.kept_of):
                with self.subTest(str(name)[:40]), self.assertRaises(NoClass) as caught:
                    asked(name)
                self.assertIs(caught.exception.name, name)

    def test_no_class_in_an_empty_library(self):
        with self.assertRaises(NoClass):
            Library("").order("A")
