"""Every name of the interface: where it is defined, its arguments by position and by name, and its attributes."""

import ast
import importlib
import inspect
import unittest
from pathlib import Path

from handedcopies.errors import HandedcopiesError
from handedcopies.likeness import compare
from handedcopies.mends import Mend
from handedcopies.reaching import reach
from handedcopies.running import Run
from handedcopies.shapes import Shape
from handedcopies.worlds import Table, World, first_world
from tests.samples import SHELF, kept_of

PACKAGE = Path(__file__).resolve().parent.parent / "handedcopies"

FUNCTIONS = """
worlds first_world(kept) labels_of(kept) step(kept, form, label)
worlds meets(kept, form, label, goal, *, when='rest') plain_deeds(kept, *labels)
reaching reach(kept, goal, *, when='rest', most=400) all_reached(kept, *, when='rest', most=400)
checking is_paper(kept, goal, thing, *, when='rest')
mends doors(kept) mend_text(kept, mend, *, name='Mended') mended(kept, mend, *, name='Mended')
shutting least_mends(kept, *, goals=None, when='rest', most=400)
shutting fewest_mend(kept, *, goals=None, when='rest', most=400)
shutting least_paper(kept, *, goals=None, when='rest', most=400) is_least(kept, thing, *, goals=None, when='rest')
joints first_joint(one, other) joint_of(first, second) is_joint(one, other, thing) joint_steps(one, other, joint)
likeness compare(one, other, *, most=400) is_likeness(one, other, thing) like_groups(kept, *mends, most=400)
"""
METHODS = """
shapes Shape __init__(text) depth lists __len__() __getitem__ __iter__() __eq__ __str__() __repr__()
kepts Kept __init__(library, name) owners(method) face(method) asks(method) places() goals() shape_at(place) __eq__
families Library __init__(text) __len__() __contains__ __iter__() __eq__ __str__() order(name) kept_of(name) of(*texts)
running Run __init__(kept) do(deed) follow(*deeds) hands() account() insides() same(one, other) hand_at(place)
running Run is_seen(place) is_busy is_open calls is_outside labels() world()
worlds World __init__(kept, form) is_open state(place) same(one, other) __eq__ __len__()
worlds Table __init__(kept, *, most=400) __len__() __getitem__ __iter__() __contains__ depth_of(form) follow(*labels)
reaching Answer __bool__() __len__()
mends Mend __init__(*pairs) __len__() floors __getitem__ __iter__() __bool__() __eq__ __or__ __and__ within(other)
mends Mend none() all_of(kept)
likeness Likeness __bool__() __len__()
"""
VALUES = {"worlds": {"MOST_WORLDS": 400}, "reaching": {"WHENS": ("rest", "closed", "ever")},
          "shutting": {"MOST_MENDS": 64}, "joints": {"MOST_JOINTS": 400}}
ERRORS = {
    "BadShape": ("text",), "BadLine": ("at",), "NoClass": ("name",), "BadField": ("name",), "TooMany": ("what",),
    "BadRow": ("owner", "method", "at"), "BadMethod": ("owner", "method"), "BadDeed": ("deed",), "BadPlace": ("place",),
    "BadWorld": ("form",), "BadLabel": ("label",), "BadGoal": ("goal",), "BadWhen": ("when",), "BadMend": ("at",),
    "NoDoor": ("door",), "BadName": ("name",), "UnlikeFaces": ("method",), "Busy": (), "NotAsked": (),
    "Shut": ("method",)}


def module(name):
    return importlib.import_module(f"handedcopies.{name}")


def parts(line):
    """The words of a line, blanks in brackets kept."""
    found, nested = [""], 0
    for sign in line:
        nested += (sign == "(") - (sign == ")")
        if sign == " " and nested == 0:
            found.append("")
        else:
            found[-1] += sign
    return found


def signature(function):
    """The parameters as they are written, without the method's own object."""
    found = inspect.signature(function)
    others = [part for part in found.parameters.values() if part.name not in ("self", "cls")]
    return str(found.replace(parameters=others))


def top_names(name):
    """The functions and classes that a file defines itself."""
    tree = ast.parse((PACKAGE / f"{name}.py").read_text(encoding="ascii"))
    return {node.name: node for node in tree.body if isinstance(node, (ast.FunctionDef, ast.ClassDef))}


class InterfaceTests(unittest.TestCase):
    def test_functions(self):
        for line in FUNCTIONS.strip().split("\n"):
            name, *functions = parts(line)
            for text in functions:
                function = text.partition("(")[0]
                self.assertIn(function, top_names(name))
                self.assertEqual(function + signature(getattr(module(name), function)), text)

    def test_methods(self):
        for line in METHODS.strip().split("\n"):
            name, owner, *methods = parts(line)
            node = top_names(name)[owner]
            defined = [part.name for part in node.body if isinstance(part, ast.FunctionDef)]
            for text in methods:
                method = text.partition("(")[0]
                self.assertIn(method, defined, owner)
                value = inspect.getattr_static(getattr(module(name), owner), method)
                if "(" in text:
                    function = value.__func__ if isinstance(value, (classmethod, staticmethod)) else value
                    self.assertEqual(method + signature(function), text)
                elif not method.startswith("__"):
                    self.assertIsInstance(value, property)
        self.assertIsInstance(inspect.getattr_static(Mend, "none"), staticmethod)
        self.assertIsInstance(inspect.getattr_static(Mend, "all_of"), classmethod)

    def test_values(self):
        for name, values in VALUES.items():
            for word, value in values.items():
                self.assertEqual(getattr(module(name), word), value)
        self.assertEqual(Run.BLANK, 0)

    def test_errors(self):
        errors = module("errors")
        self.assertTrue(issubclass(HandedcopiesError, ValueError))
        for name, fields in ERRORS.items():
            error = getattr(errors, name)
            base = RuntimeError if name in ("Busy", "NotAsked", "Shut") else HandedcopiesError
            self.assertEqual(error.__bases__, (base,))
            values = [object() for _ in fields]
            made = error(*values)
            self.assertEqual([getattr(made, field) for field in fields], values)
            named = error(**dict(zip(fields, values)))
            self.assertEqual([getattr(named, field) for field in fields], values)
            self.assertIsInstance(str(made), str)

    def test_attributes_are_set_when_the_object_is_made(self):
        kept = kept_of(SHELF, "Shelf")
        for value, words in (
                (Shape("[.]"), "text"), (kept, "library name fields methods"), (kept.library, "text names"),
                (Run(kept), "kept"), (World(kept, first_world(kept)), "form"), (Table(kept), "kept"),
                (reach(kept, "rows"), "goal when paper"), (Mend(), "pairs"), (compare(kept, kept), "paper")):
            for word in words.split():
                self.assertIn(word, vars(value), value)

    def test_nothing_equals_a_value_of_another_class(self):
        kept = kept_of(SHELF, "Shelf")
        values = [Shape("[.]"), kept, kept.library, Run(kept), World(kept, first_world(kept)), Table(kept),
                  reach(kept, "rows"), Mend(), compare(kept, kept)]
        for at, one in enumerate(values):
            for other in values[:at] + values[at + 1:] + [None, (), "", 0, False, "[.]", SHELF, first_world(kept)]:
                self.assertFalse(one == other)
                self.assertTrue(other != one)


if __name__ == "__main__":
    unittest.main()
