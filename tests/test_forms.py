"""Tuples of integers that are no worlds by form: wrong at one place or several, with lists named again behind (26)."""

import itertools
import unittest

from handedcopies.checking import is_paper
from handedcopies.errors import BadWorld
from handedcopies.worlds import Table, World, first_world, meets, step
from tests.samples import kept_of
from tests.test_worlds import all_codes

WRONG = (-10 ** 29, -4, -3, -2, -1, 0, 1, 2, 3, 10 ** 29)
LABEL = ("go", (), -1)


def box_kept(*fields):
    """The kept of a class with these fields and a method."""
    lines = [f"    {word}: {shape}" for word, shape in zip("abcd", fields)]
    return kept_of("\n".join(["class Box:"] + lines + ["    def go():"]), "Box")


class WrongFormTests(unittest.TestCase):
    def refuses(self, kept, form):
        """Whether the form is told to be none, by all that take one."""
        for ask in (lambda: World(kept, form), lambda: step(kept, form, LABEL), lambda: meets(kept, form, LABEL, "a")):
            with self.assertRaises(BadWorld) as caught:
                ask()
            self.assertIs(caught.exception.form, form)
        self.assertFalse(is_paper(kept, "a", ("never", (first_world(kept), form))))
        self.assertFalse(is_paper(kept, "a", ("never", (form, first_world(kept)))))

    def test_every_tuple_is_a_form_or_is_refused(self):
        for fields in (("[[[.]], [[.]]]",), ("[[.], [.]]", "[.]", "[.]"), ("[.]", "[[.], [.]]", "[.]")):
            kept = box_kept(*fields)
            right = all_codes(*fields)
            for codes in itertools.product(WRONG, repeat=5):
                if codes in right:
                    self.assertEqual(World(kept, (False, codes)).form, (False, codes))
                else:
                    with self.assertRaises(BadWorld):
                        World(kept, (False, codes))

    def test_wrong_items_of_lists_that_are_named_again(self):
        kept = box_kept("[[[.]], [[.]]]", "[[.]]", "[.]")
        self.assertTrue(World(kept, (False, (-1, -1, -1, 1, 1, 2))).same("a[0][0]", "b[0]"))
        for wrong in (7, 3, 1, -4, 10 ** 29, -10 ** 29):
            self.refuses(kept, (False, (-1, -1, wrong, 1, 1, -1)))
            self.refuses(kept, (True, (-1, -1, wrong, 1, wrong, 2)))
            self.refuses(kept, (False, (-1, -1, wrong, -1, wrong, 1, 2)))
            self.refuses(kept, (False, (-1, -1, -1, -1, wrong, 3, 1)))
            self.refuses(kept, (False, (wrong, -1, -1, 1, 1, 2)))
        for wrong in (-1, -2, 0, 1, 2):
            self.refuses(kept, (False, (-1, -2, wrong, 1, 1, -1)))
            self.refuses(kept, (True, (-2, wrong, -3, 1, 1, -1)))
            self.refuses(kept, (False, (-1, -1, -1, -2, wrong, 3, 1)))

    def test_tables_do_not_have_them(self):
        kept = box_kept("[[[.]], [[.]]]")
        table = Table(kept)
        for wrong in (7, -4, 10 ** 29):
            form = (False, (-1, -1, wrong, 1))
            self.assertNotIn(form, table)
            with self.assertRaises(BadWorld):
                table.depth_of(form)


if __name__ == "__main__":
    unittest.main()
