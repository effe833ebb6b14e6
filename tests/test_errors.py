"""The errors: their fields, in order, and their base classes."""

import unittest

from handedcopies import errors

FIELDS = {
    "BadShape": ("text",), "BadLine": ("at",), "NoClass": ("name",), "BadField": ("name",), "TooMany": ("what",),
    "BadRow": ("owner", "method", "at"), "BadMethod": ("owner", "method"), "BadDeed": ("deed",),
    "BadPlace": ("place",), "BadWorld": ("form",), "BadLabel": ("label",), "BadGoal": ("goal",),
    "BadWhen": ("when",), "BadMend": ("at",), "NoDoor": ("door",), "BadName": ("name",), "UnlikeFaces": ("method",),
}
RUNTIME_FIELDS = {"Busy": (), "NotAsked": (), "Shut": ("method",)}


class ErrorTests(unittest.TestCase):
    def check_fields(self, kind, names):
        values = [[name, None, True] for name in names]
        for error in (kind(*values), kind(**dict(zip(names, values)))):
            for name, value in zip(names, values):
                self.assertIs(getattr(error, name), value)
        for wrong in (values + [1], values[:-1]):
            with self.assertRaises(TypeError):
                kind(*wrong)

    def test_fields_and_bases(self):
        for name, fields in FIELDS.items():
            with self.subTest(name):
                self.assertEqual(getattr(errors, name).__bases__, (errors.HandedcopiesError,))
                self.check_fields(getattr(errors, name), fields)

    def test_runtime_errors(self):
        for name, fields in RUNTIME_FIELDS.items():
            with self.subTest(name):
                self.assertEqual(getattr(errors, name).__bases__, (RuntimeError,))
        self.check_fields(errors.Shut, ("method",))
        self.assertIsInstance(errors.Busy(), RuntimeError)
        self.assertIsInstance(errors.NotAsked(), RuntimeError)

    def test_base(self):
        self.assertEqual(errors.HandedcopiesError.__bases__, (ValueError,))
        self.assertFalse(issubclass(errors.Shut, errors.HandedcopiesError))

    def test_nothing_else_is_defined(self):
        defined = {name for name in vars(errors) if not name.startswith("_")}
        self.assertEqual(defined, {*FIELDS, *RUNTIME_FIELDS, "HandedcopiesError"})
