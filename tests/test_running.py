"""Runs: rows, views, what the caller holds, deeds, asks, marks and accounts (points 13 to 20)."""

import unittest

from handedcopies.errors import Busy
from handedcopies.running import Run
from tests.samples import SHELF, kept_of, method_text


def run_of(rows, parameters="", above=""):
    """A run of a class A with a method go."""
    return Run(kept_of(method_text(rows, parameters, above), "A"))


def go(*arguments):
    return ("call", "go", arguments)


def made(text):
    return ("make", text)


def items(run):
    return [part for _, _, part in run.hands()]


class BeginningTests(unittest.TestCase):
    def test_first_object(self):
        run = run_of([], above="a: [[.], .]; b: .; c: [.]")
        self.assertEqual(run.insides(), {"a": [[0], 0], "b": 0, "c": [0]})
        self.assertEqual(list(run.insides()), ["a", "b", "c"])
        self.assertEqual(run.account(), (None, ()))
        self.assertEqual(run.hands(), ())
        self.assertEqual(run.labels(), [])
        self.assertEqual(run.world(), (False, (-1, -1, -1)))
        self.assertEqual((run.is_busy, run.is_open, run.is_outside, run.calls), (False, False, False, 0))
        self.assertFalse(run.same("a", "c"))
        self.assertFalse(run.same("a[0]", "c"))
        self.assertIsNone(run.hand_at("a"))

    def test_blank_and_kept(self):
        kept = kept_of(SHELF, "Shelf")
        run = Run(kept)
        self.assertEqual(run.kept, kept)
        self.assertEqual((Run.BLANK, run.BLANK), (0, 0))

    def test_no_fields_and_no_methods(self):
        run = Run(kept_of("class A:", "A"))
        self.assertEqual((run.insides(), run.world()), ({}, (False, ())))
        self.assertEqual(run.do(made("[.]")), ("made", 0))

    def test_example_of_the_document(self):
        run = Run(kept_of(SHELF, "Shelf"))
        self.assertEqual(run.do(made("[.]")), ("made", 0))
        self.assertEqual(run.do(("call", "put", (1, 0))), ("returns", None))
        self.assertEqual(run.insides(), {"rows": [[0], [1]]})
        self.assertEqual(run.do(("put", 0, 0, None)), ("put",))
        self.assertEqual(run.insides(), {"rows": [[0], [2]]})
        self.assertEqual(run.do(("call", "get", (0,))), ("returns", 1))
        self.assertEqual(run.account(), (("returns", 1), (("list", "[.]", (2,)), ("list", "[.]", (0,)))))
        self.assertIsNone(run.hand_at("rows"))
        self.assertEqual((run.hand_at("rows[0]"), run.hand_at("rows[1]")), (1, 0))

    def test_heir_copies(self):
        run = Run(kept_of(SHELF, "Guarded"))
        self.assertEqual(run.follow(("call", "get", (1,)), ("call", "get", (1,))), [("returns", 0), ("returns", 1)])
        self.assertEqual(run.world(), (False, (-1, -1, -1)))


class MakeAndPutTests(unittest.TestCase):
    def test_values_and_hands_from_the_left(self):
        run = run_of([])
        self.assertEqual(run.do(made("[[[.]], ., [., .]]")), ("made", 0))
        self.assertEqual(run.hands(), (
            ("list", "[[[.]], ., [., .]]", (1, 2, 3)), ("list", "[[.]]", (2,)), ("list", "[.]", (1,)),
            ("list", "[., .]", (3, 4))))
        self.assertEqual(run.do(made("[.]")), ("made", 4))
        self.assertEqual(items(run)[4], (5,))

    def test_put(self):
        run = run_of([])
        run.follow(made("[[.], .]"), made("[.]"))
        self.assertEqual(run.do(("put", 0, 0, 2)), ("put",))
        self.assertEqual(run.do(("put", 0, 1, None)), ("put",))
        self.assertEqual(items(run), [(2, 4), (1,), (3,)])
        run.do(("put", 1, 0, None))
        self.assertEqual(items(run), [(2, 4), (5,), (3,)])

    def test_values_of_calls_come_in_order(self):
        run = run_of(["self.a = p", "self.b = q"], "p: ., i: 2, q: .", "a: .; b: .")
        run.follow(made("[.]"), go(None, 1, None), made("[.]"))
        self.assertEqual(run.insides(), {"a": 2, "b": 3})
        self.assertEqual(items(run), [(1,), (4,)])

    def test_errors_spend_no_value(self):
        run = run_of(["f(v)"], "v: ., f: . -> .")
        for deed in (made("."), ("put", 0, 0, None), go(), go(None, 0), ("reply", None), ("raise",)):
            with self.assertRaises((ValueError, RuntimeError)):
                run.do(deed)
        self.assertEqual(run.do(go(None, None)), ("asks", 1, 1))
        with self.assertRaises(Busy):
            run.do(go(None, None))
        self.assertEqual(run.do(("reply", None)), ("returns", None))
        run.do(made("[.]"))
        self.assertEqual(items(run), [(3,)])


class RowTests(unittest.TestCase):
    def test_paths_give_the_very_value(self):
        run = run_of(["self.a[1] = self.a[0]", "self.b = self.a[i]"], "i: 2", "a: [[.], [.]]; b: [.]")
        run.do(go(0))
        self.assertTrue(run.same("a[0]", "a[1]"))
        self.assertTrue(run.same("b", "a[1]"))
        self.assertFalse(run.same("a", "b"))
        self.assertEqual(run.world(), (False, (-1, -1, 1, 1)))

    def test_words_keep_their_values(self):
        rows = ["x = self.a", "self.a = new [.]", "self.b = x", "x = self.v", "self.v = new .", "return x"]
        run = run_of(rows, above="a: [.]; b: [.]; v: .")
        old = run.insides()
        self.assertEqual(run.do(go()), ("returns", 0))
        self.assertFalse(run.same("a", "b"))
        self.assertEqual(run.insides(), old)

    def test_words_that_are_bound_again(self):
        run = run_of(["p = p[0]", "p[0] = v", "self.a = p"], "p: [[.]], v: .", "a: [.]")
        run.follow(made("[[.]]"), go(0, None))
        self.assertEqual(run.insides(), {"a": [2]})
        self.assertEqual(run.hand_at("a"), 1)

    def test_paths_with_steps(self):
        run = run_of(["self.a[i][j] = v"], "i: 2, j: 2, v: .", "a: [[., .], [., .]]")
        run.follow(go(0, 1, None), go(1, 0, None))
        self.assertEqual(run.insides(), {"a": [[0, 1], [2, 0]]})
        run = run_of(["x = new [[.], [.]]", "x[i][0] = v", "return x[i][0]"], "v: ., i: 2")
        self.assertEqual(run.do(go(None, 1)), ("returns", 1))

    def test_copies_of_paths(self):
        above = "a: [[[.]]]; b: [[[.]]]"
        run = run_of(["self.b = copy(self.a)"], above=above)
        run.do(go())
        self.assertEqual(run.world(), (False, (-1,) * 6))
        for floors, codes in ((1, (-1, 1)), (2, (-1, -1, 2)), (3, (-1, -1, -1))):
            run = run_of([f"self.b = copy(self.a, {floors})"], above=above)
            run.do(go())
            self.assertEqual(run.world(), (False, (-1, -1, -1) + codes))

    def test_a_list_at_two_places_becomes_two(self):
        run = run_of(["self.a[0] = self.a[1]", "self.b = copy(self.a)"], above="a: [[.], [.]]; b: [[.], [.]]")
        run.do(go())
        self.assertTrue(run.same("a[0]", "a[1]"))
        self.assertFalse(run.same("b[0]", "b[1]"))
        self.assertEqual(run.world(), (False, (-1, -1, 1, -1, -1, -1)))

    def test_copies_have_the_values(self):
        run = run_of(["self.a[0][0] = v", "return copy(self.a, 2)"], "v: .", "a: [[.], .]")
        self.assertEqual(run.do(go(None)), ("returns", 0))
        self.assertEqual(items(run), [(1, 0), (1,)])
        self.assertEqual(run.do(go(None)), ("returns", 2))
        self.assertEqual(items(run), [(1, 0), (1,), (3, 0), (2,)])

    def test_new(self):
        rows = ["self.v = v", "self.v = new .", "self.a = new [.]", "return new [[.], .]"]
        run = run_of(rows, "v: .", "a: [.]; v: .")
        self.assertEqual(run.do(go(None)), ("returns", 0))
        self.assertEqual(items(run), [(1, 0), (0,)])
        self.assertEqual(run.insides(), {"a": [0], "v": 0})

    def test_right_side_first(self):
        text = method_text(["x = new [[.]]", "self.a = x", "return v"], "v: .", "a: [[.]]; b: [.]")
        text += "\nclass B(A):\n    def go(v: .):\n        self.a[0][0] = super(v)\n        return v"
        run = Run(kept_of(text, "B"))
        run.do(go(None))
        self.assertEqual(run.insides(), {"a": [[1]], "b": [0]})

    def test_left_side_behind_an_ask(self):
        run = run_of(["p[0][0] = f(p)"], "p: [[.]], f: [[.]] -> .")
        run.follow(made("[[.]]"), made("[.]"), go(0, None), ("put", 0, 0, 2), ("reply", None))
        self.assertEqual(items(run), [(2,), (1,), (3,)])

    def test_plain_results(self):
        run = run_of(["return self.v"], above="v: .")
        self.assertEqual(run.do(go()), ("returns", 0))
        self.assertEqual(run_of(["return p"], "p: .").do(go(None)), ("returns", 1))


class SuperTests(unittest.TestCase):
    def run_of(self, above, rows, parameters="", fields=""):
        text = method_text(above, parameters, fields)
        lines = ["class B(A):", f"    def go({parameters}):"] + [f"        {row}" for row in rows]
        return Run(kept_of("\n".join([text] + lines), "B"))

    def test_words_are_its_own(self):
        rows = ["x = new [.]", "super(q)", "self.b = x"]
        run = self.run_of(["x = q", "self.a = x"], rows, "q: [.]", "a: [.]; b: [.]")
        run.follow(made("[.]"), go(0))
        self.assertEqual((run.hand_at("a"), run.hand_at("b")), (0, None))

    def test_words_of_base_and_heir_may_be_passed_crosswise(self):
        text = method_text(["self.a = p", "self.b = q"], "p: [.], q: [.]", "a: [.]; b: [.]")
        run = Run(kept_of(text + "\nclass B(A):\n    def go(p: [.], q: [.]):\n        super(q, p)", "B"))
        run.follow(made("[.]"), made("[.]"), go(0, 1))
        self.assertEqual((run.hand_at("a"), run.hand_at("b")), (1, 0))

    def test_indexes_may_be_passed_crosswise(self):
        text = method_text(["self.a[i][j] = v"], "i: 2, j: 2, v: .", "a: [[., .], [., .]]")
        heir = text + "\nclass B(A):\n    def go(i: 2, j: 2, w: .):\n        super(%s, w)"
        for arguments, inside in (("j, i", [[0, 0], [1, 0]]), ("i, j", [[0, 1], [0, 0]]), ("1, 1", [[0, 0], [0, 1]]),
                                  ("j, j", [[0, 0], [0, 1]]), ("0, i", [[1, 0], [0, 0]])):
            run = Run(kept_of(heir % arguments, "B"))
            run.do(go(0, 1, None))
            self.assertEqual(run.insides(), {"a": inside}, arguments)

    def test_functions_may_be_passed_crosswise(self):
        text = method_text(["f(v)", "g(v)", "f(v)"], "f: . -> none, g: . -> none, v: .")
        run = Run(kept_of(text + "\nclass B(A):\n    def go(f: . -> none, g: . -> none, v: .):\n        super(g, f, v)",
                          "B"))
        self.assertEqual(run.do(go(None, None, None)), ("asks", 1, 1))
        self.assertEqual(run.do(("reply", None)), ("asks", 0, 1))
        self.assertEqual(run.do(("reply", None)), ("asks", 1, 1))
        run = Run(kept_of(text + "\nclass B(A):\n    def go(f: . -> none, g: . -> none, v: .):\n        super(g, g, v)",
                          "B"))
        self.assertEqual([run.do(go(None, None, None))] + run.follow(("reply", None), ("reply", None)),
                         [("asks", 1, 1)] * 3)

    def test_copies_of_arguments_and_results(self):
        run = self.run_of(["self.a = q", "return q"], ["return copy(super(copy(q)), 1)"], "q: [.]", "a: [.]")
        self.assertEqual(run.follow(made("[.]"), go(0)), [("made", 0), ("returns", 1)])
        self.assertIsNone(run.hand_at("a"))
        self.assertEqual(run.insides(), {"a": [1]})

    def test_value_may_be_dropped(self):
        run = self.run_of(["x = new [.]", "return f(x)"], ["super(f)", "return new ."], "f: [.] -> .", "a: [.]")
        self.assertEqual(run.follow(go(None), ("reply", None)), [("asks", 0, 0), ("returns", 0)])
        self.assertEqual(items(run), [(0,)])

    def test_rows_behind_super(self):
        run = self.run_of(["self.a = q", "return q"], ["x = super(q)", "x[0] = q[0]", "self.a = new [.]", "return x"],
                          "q: [.]", "a: [.]")
        self.assertEqual(run.follow(made("[.]"), go(0)), [("made", 0), ("returns", 0)])
        self.assertIsNone(run.hand_at("a"))
        self.assertTrue(run.is_outside)

    def test_only_the_called_definition_makes_a_view(self):
        run = self.run_of(["return view self.a"], ["x = super()", "self.b = x", "return view x"],
                          fields="a: [.]; b: [.]")
        self.assertEqual(run.do(go()), ("returns", 0))
        self.assertEqual(run.hands(), (("view", "[.]", (0,)),))
        self.assertTrue(run.same("a", "b"))
        self.assertEqual(run.world(), (False, (-2, 0)))

    def test_chain_of_definitions_with_classes_beside(self):
        text = """class A:
    a: [.]
    def go(p: [.]):
        self.a = p
        return self.a
class B(A):
    b: [.]
    def go(p: [.]):
        self.b = p
        return copy(super(p))
class C(A):
    a: [.]
    c: [.]
    def go(p: [.]):
        self.c = super(copy(p))
        return self.c
class D(B, C):
    def go(q: [.]):
        x = super(q)
        return q"""
        run = Run(kept_of(text, "D"))
        self.assertEqual(run.kept.owners("go"), ["D", "B", "C", "A"])
        run.follow(made("[.]"), go(0))
        self.assertEqual(run.do(go(0)), ("returns", 0))
        self.assertEqual((run.hand_at("a"), run.hand_at("b"), run.hand_at("c")), (None, 0, None))
        self.assertTrue(run.same("a", "c"))
        run = Run(kept_of(text, "B"))
        self.assertEqual(run.follow(made("[.]"), go(0))[1], ("returns", 1))
        self.assertTrue(run.same("a", "b"))


class HoldTests(unittest.TestCase):
    def test_returned_lists_and_what_is_below(self):
        run = run_of(["return self.a"], above="a: [[.], [[.], .]]")
        self.assertEqual(run.do(go()), ("returns", 0))
        self.assertEqual(items(run), [(1, 2), (0,), (3, 0), (0,)])
        self.assertEqual(run.do(go()), ("returns", 0))
        self.assertEqual(len(run.hands()), 4)

    def test_those_with_a_number_are_passed_over(self):
        run = run_of(["self.a[1] = p", "return self.a"], "p: [.]", "a: [[.], [.], [.]]")
        run.follow(made("[.]"), go(0))
        self.assertEqual(items(run), [(1,), (2, 0, 3), (0,), (0,)])
        run = run_of(["self.a[1] = self.a[0]", "return self.a"], above="a: [[.], [.], [.]]")
        run.do(go())
        self.assertEqual(items(run), [(1, 1, 2), (0,), (0,)])

    def test_items_set_by_rows(self):
        run = run_of(["p[0] = self.a", "p[0] = new [.]", "self.b = p[0]"], "p: [[.]]", "a: [.]; b: [.]")
        run.follow(made("[[.]]"), go(0))
        self.assertEqual(items(run), [(3,), (1,), (0,), (0,)])
        self.assertEqual((run.hand_at("a"), run.hand_at("b")), (2, 3))

    def test_items_that_are_there_for_one_row_only(self):
        run = run_of(["x = p[0]", "p[0] = self.a", "p[0] = x"], "p: [[.]]", "a: [.]")
        run.follow(made("[[.]]"), go(0))
        self.assertEqual(items(run), [(1,), (1,), (0,)])
        self.assertEqual(run.hand_at("a"), 2)

    def test_what_is_below_a_set_item_comes_before_the_next_row(self):
        run = run_of(["p[0] = self.a", "p[1] = self.b"], "p: [[[.]], [.]]", "a: [[.]]; b: [.]")
        run.follow(made("[[[.]], [.]]"), go(0))
        self.assertEqual([run.hand_at(place) for place in ("a", "a[0]", "b")], [4, 5, 6])

    def test_what_is_set_below_a_list_that_is_not_held(self):
        run = run_of(["x = new [[.]]", "x[0] = self.a", "self.b = x"], above="a: [.]; b: [[.]]")
        run.do(go())
        self.assertEqual(run.hands(), ())
        self.assertTrue(run.same("a", "b[0]"))

    def test_held_inside_is_held_for_ever(self):
        run = run_of(["x = self.a", "self.a = new [.]", "return x"], above="a: [.]")
        run.do(go())
        self.assertIsNone(run.hand_at("a"))
        self.assertEqual(len(run.hands()), 1)
        run.do(go())
        self.assertEqual(len(run.hands()), 2)

    def test_a_list_that_is_passed_again(self):
        run = run_of(["self.b = self.a", "self.a = p"], "p: [.]", "a: [.]; b: [.]")
        run.follow(made("[.]"), go(0), go(0))
        self.assertTrue(run.same("a", "b"))
        self.assertEqual(run.world(), (False, (-3, -3)))
        run.do(("put", 0, 0, None))
        self.assertEqual(run.insides(), {"a": [2], "b": [2]})

    def test_held_list_at_two_places_and_below_a_held_list(self):
        run = run_of(["self.a = p", "self.b = p", "self.c = p[0]"], "p: [[.]]", "a: [[.]]; b: [[.]]; c: [.]")
        run.follow(made("[[.]]"), go(0))
        self.assertEqual(run.world(), (False, (-3, -3, -3)))
        self.assertTrue(run.same("a", "b") and run.same("a[0]", "c") and run.same("b[0]", "a[0]"))
        self.assertEqual([run.hand_at(place) for place in ("a", "a[0]", "b", "b[0]", "c")], [0, 1, 0, 1, 1])


class ViewTests(unittest.TestCase):
    above = "a: [[.], .]; v: ."

    def test_view_comes_before_its_items(self):
        run = run_of(["return view self.a"], above=self.above)
        self.assertEqual(run.do(go()), ("returns", 0))
        self.assertEqual(run.hands(), (("view", "[[.], .]", (1, 0)), ("list", "[.]", (0,))))
        self.assertEqual(run.world(), (False, (-2, -3)))
        self.assertEqual((run.hand_at("a"), run.is_seen("a"), run.hand_at("a[0]"), run.is_seen("a[0]")),
                         (None, True, 1, True))

    def test_each_view_is_a_new_hand(self):
        run = run_of(["return view self.a"], above=self.above)
        self.assertEqual(run.follow(go(), go()), [("returns", 0), ("returns", 2)])
        self.assertEqual([kind for kind, _, _ in run.hands()], ["view", "list", "view"])

    def test_view_of_a_held_list(self):
        run = run_of(["self.b = p", "return view p"], "p: [[.]]", "b: [[.]]")
        self.assertEqual(run.follow(made("[[.]]"), go(0)), [("made", 0), ("returns", 2)])
        self.assertEqual(run.hands()[2], ("view", "[[.]]", (1,)))
        self.assertEqual(run.world(), (False, (-3,)))
        self.assertEqual(run.hand_at("b"), 0)
        run.do(("put", 0, 0, 1))
        run.follow(made("[.]"), ("put", 0, 0, 3))
        self.assertEqual(run.hands()[2], ("view", "[[.]]", (3,)))

    def test_view_and_then_the_list(self):
        text = ("class A:\n    one: [.]\n    def look():\n        return view self.one\n    def take():\n"
                "        return self.one")
        run = Run(kept_of(text, "A"))
        look, take = ("call", "look", ()), ("call", "take", ())
        self.assertEqual(run.follow(look, look, take), [("returns", 0), ("returns", 1), ("returns", 2)])
        self.assertEqual([kind for kind, _, _ in run.hands()], ["view", "view", "list"])
        self.assertEqual(run.world(), (False, (-3,)))

    def test_view_shows_items_as_they_are(self):
        text = ("class A:\n    a: [[.], .]\n    def look():\n        return view self.a\n    def fill(p: [.], v: .):\n"
                "        self.a[0] = p\n        self.a[1] = v\n    def blank():\n        self.a[0] = new [.]\n"
                "    def leave():\n        self.a = new [[.], .]")
        run = Run(kept_of(text, "A"))
        run.follow(("call", "look", ()), made("[.]"), ("call", "fill", (2, None)))
        self.assertEqual(run.hands()[0], ("view", "[[.], .]", (2, 2)))
        self.assertFalse(run.is_outside)
        run.do(("call", "blank", ()))
        self.assertEqual(run.hands()[0], ("view", "[[.], .]", (3, 2)))
        self.assertEqual(run.hand_at("a[0]"), 3)
        self.assertFalse(run.is_outside)
        run.do(("call", "leave", ()))
        self.assertEqual(run.hands()[0], ("view", "[[.], .]", (3, 2)))
        self.assertEqual(run.world(), (False, (-1, -1)))
        run.do(("call", "blank", ()))
        self.assertEqual(len(run.hands()), 4)

    def test_view_of_a_copy(self):
        run = run_of(["return view copy(self.a, 1)"], above=self.above)
        run.do(go())
        self.assertEqual(run.world(), (False, (-1, -3)))
        self.assertFalse(run.is_seen("a"))
        self.assertTrue(run.is_seen("a[0]"))


class AskTests(unittest.TestCase):
    def test_ask_and_reply(self):
        run = run_of(["self.a = f(self.a)", "return self.a"], "v: ., f: [.] -> [.]", "a: [.]")
        self.assertEqual(run.do(go(None, None)), ("asks", 1, 0))
        self.assertTrue(run.is_busy)
        self.assertEqual((run.hand_at("a"), run.calls, run.labels()), (0, 1, []))
        self.assertEqual(run.do(made("[.]")), ("made", 1))
        self.assertEqual(run.do(("reply", 1)), ("returns", 1))
        self.assertFalse(run.is_busy)
        self.assertEqual((run.hand_at("a"), run.calls, run.labels()), (1, 1, [("go", (), -1)]))

    def test_plain_values_and_no_reply(self):
        run = run_of(["self.v = f(v)", "g(self.v)"], "v: ., f: . -> ., g: . -> none", "v: .")
        self.assertEqual(run.do(go(None, None, None)), ("asks", 1, 1))
        self.assertEqual(run.do(("reply", None)), ("asks", 2, 2))
        self.assertEqual(run.insides(), {"v": 2})
        self.assertEqual(run.do(("reply", None)), ("returns", None))
        run.do(made("[.]"))
        self.assertEqual(items(run), [(3,)])

    def test_deeds_during_an_ask(self):
        run = run_of(["x = self.a[0]", "f(self.a)", "self.b = self.a[0]", "self.c = x"], "f: [[.]] -> none",
                     "a: [[.]]; b: [.]; c: [.]")
        run.do(go(None))
        run.follow(made("[.]"), ("put", 0, 0, 2))
        self.assertEqual(run.insides(), {"a": [[1]], "b": [0], "c": [0]})
        self.assertEqual(run.do(("reply", None)), ("returns", None))
        self.assertEqual([run.hand_at(place) for place in ("a", "a[0]", "b", "c")], [0, 2, 2, 1])

    def test_no_calls_and_no_world_while_busy(self):
        run = run_of(["f(v)"], "v: ., f: . -> none", "a: [.]")
        run.do(go(None, None))
        before = run.account()
        with self.assertRaises(Busy):
            run.do(go(None, None))
        with self.assertRaises(Busy):
            run.world()
        self.assertEqual((run.account(), run.calls, run.is_busy), (before, 1, True))
        self.assertEqual((run.insides(), run.hand_at("a"), run.is_seen("a"), run.same("a", "a")),
                         ({"a": [0]}, None, False, True))

    def test_raise_leaves_out_what_is_behind(self):
        text = method_text(["self.a = new [.]", "self.b = f(self.a)", "self.c = self.a"], "f: [.] -> [.]",
                           "a: [.]; b: [.]; c: [.]")
        text += "\nclass B(A):\n    def go(f: [.] -> [.]):\n        super(f)\n        self.c = self.b"
        run = Run(kept_of(text, "B"))
        self.assertEqual(run.follow(go(None), ("raise",)), [("asks", 0, 0), ("raised",)])
        self.assertEqual(run.labels(), [("go", (), 0)])
        self.assertEqual(run.world(), (False, (-3, -1, -1)))
        self.assertFalse(run.is_busy)
        self.assertEqual(run.account(), (("raised",), (("list", "[.]", (0,)),)))
        self.assertEqual(run.follow(go(None), made("[.]"), ("reply", 2)),
                         [("asks", 0, 1), ("made", 2), ("returns", None)])
        self.assertEqual(run.world(), (False, (-3, -3, -3)))
        self.assertTrue(run.same("b", "c"))

    def test_labels(self):
        run = run_of(["f(v)", "g(v)", "f(v)"], "v: ., f: . -> ., g: . -> none")
        call, reply, stop = go(None, None, None), ("reply", None), ("raise",)
        self.assertEqual([report[:2] for report in run.follow(call, reply, reply)],
                         [("asks", 1), ("asks", 2), ("asks", 1)])
        run.follow(stop, call, stop, call, reply, stop, call, reply, reply, reply)
        self.assertEqual(run.labels(), [("go", (), 2), ("go", (), 0), ("go", (), 1), ("go", (), -1)])
        self.assertEqual(run.calls, 4)

    def test_labels_have_indexes(self):
        run = Run(kept_of(SHELF, "Shelf"))
        run.follow(("call", "get", (1,)), made("[.]"), ("call", "put", (0, 1)))
        self.assertEqual(run.labels(), [("get", (1,), -1), ("put", (0,), -1)])
        run.labels().append(0)
        self.assertEqual(len(run.labels()), 2)

    def test_copies_around_asks(self):
        run = run_of(["self.a = copy(f(copy(self.a)), 1)"], "f: [[.]] -> [[.]]", "a: [[.]]")
        run.follow(go(None), made("[[.]]"), ("reply", 2))
        self.assertEqual(run.world(), (False, (-1, -3)))
        self.assertEqual(run.hand_at("a[0]"), 3)


class WrapTests(unittest.TestCase):
    """Functions that are passed on with copies."""

    def world(self, *wraps, deeds=2):
        """The world behind a call in which the heirs pass f on so, and hand the reply back to the inside."""
        lines = [method_text(["self.b = f(self.a)"], "f: [[.]] -> [[.]]", "a: [[.]]; b: [[.]]")]
        for at, passed in enumerate(wraps):
            lines.append(f"class {'BCD'[at]}({'ABC'[at]}):\n    def go(f: [[.]] -> [[.]]):\n        super({passed})")
        run = Run(kept_of("\n".join(lines), "ABCD"[len(wraps)]))
        run.follow(go(None), made("[[.]]"), ("reply", 2))
        return run.world()[1]

    def test_floors(self):
        self.assertEqual(self.world(), (-3, -3))
        self.assertEqual(self.world("f"), (-3, -3))
        self.assertEqual(self.world("wrap(f, 0, 0)"), (-3, -3))
        self.assertEqual(self.world("wrap(f, 1, 0)"), (-1, -3, -3))
        self.assertEqual(self.world("wrap(f, 2, 0)"), (-1, -1, -3))
        self.assertEqual(self.world("wrap(f, 0, 1)"), (-3, -1, -3))
        self.assertEqual(self.world("wrap(f, 0, 2)"), (-3, -1, -1))
        self.assertEqual(self.world("wrap(f, 1, 2)"), (-1, -3, -1, -1))

    def test_greater_number_each_way(self):
        self.assertEqual(self.world("wrap(f, 1, 2)", "wrap(f, 2, 0)"), (-1, -1, -1, -1))
        self.assertEqual(self.world("wrap(f, 2, 0)", "wrap(f, 1, 1)"), (-1, -1, -1, -3))
        self.assertEqual(self.world("wrap(f, 0, 1)", "f"), (-3, -1, -3))
        self.assertEqual(self.world("wrap(f, 1, 1)", "f", "wrap(f, 0, 0)"), (-1, -3, -1, -3))
        self.assertEqual(self.world("wrap(f, 1, 0)", "wrap(f, 0, 1)"), (-1, -3, -1, -3))

    def test_caller_knows_the_parameter_of_the_called_method(self):
        text = method_text(["g(v)"], "v: ., f: . -> ., g: . -> .")
        text += "\nclass B(A):\n    def go(v: ., f: . -> ., g: . -> .):\n        super(v, g, wrap(f, 0, 0))"
        self.assertEqual(Run(kept_of(text, "B")).do(go(None, None, None)), ("asks", 1, 1))


class MarkTests(unittest.TestCase):
    text = """class A:
    a: [.]
    enter start(f: . -> none):
        f(new .)
    exit stop(f: . -> none):
        f(new .)
    def look():
        return view self.a"""

    def test_enter_and_exit(self):
        run = Run(kept_of(self.text, "A"))
        start, stop, reply = ("call", "start", (None,)), ("call", "stop", (None,)), ("reply", None)
        run.do(start)
        self.assertFalse(run.is_open)
        run.do(reply)
        self.assertTrue(run.is_open)
        self.assertEqual(run.world(), (True, (-1,)))
        run.do(("call", "look", ()))
        self.assertTrue(run.is_open)
        run.do(stop)
        self.assertTrue(run.is_open)
        run.do(reply)
        self.assertFalse(run.is_open)
        self.assertEqual(run.world(), (False, (-2,)))
        run.do(("call", "look", ()))
        self.assertFalse(run.is_open)

    def test_raises(self):
        run = Run(kept_of(self.text, "A"))
        start, stop, reply = ("call", "start", (None,)), ("call", "stop", (None,)), ("reply", None)
        run.follow(start, ("raise",))
        self.assertFalse(run.is_open)
        run.follow(start, reply)
        self.assertTrue(run.is_open)
        run.follow(stop, ("raise",))
        self.assertFalse(run.is_open)
        self.assertEqual(run.labels(), [("start", (), 0), ("start", (), -1), ("stop", (), 0)])


class OutsideTests(unittest.TestCase):
    def test_items_of_held_lists(self):
        run = run_of(["p[0] = p[0]"], "p: [.]")
        run.do(made("[.]"))
        self.assertFalse(run.is_outside)
        run.do(go(0))
        self.assertTrue(run.is_outside)
        with self.assertRaises(ValueError):
            run.do(go(1))
        with self.assertRaises(RuntimeError):
            run.do(("raise",))
        self.assertTrue(run.is_outside)
        run.do(made("[.]"))
        self.assertFalse(run.is_outside)
        run.do(go(0))
        run.do(("put", 0, 0, None))
        self.assertFalse(run.is_outside)

    def test_what_is_not_held_at_that_moment(self):
        for rows in (["self.a[0] = v", "return self.a"], ["x = new [.]", "x[0] = v", "return x"],
                     ["self.a = new [.]", "return self.a"], ["x = self.a", "x[0] = v", "return x"]):
            run = run_of(rows, "v: .", "a: [.]")
            run.do(go(None))
            self.assertFalse(run.is_outside, rows)
        run = run_of(["x = self.a", "x[0] = v", "return x"], "v: .", "a: [.]")
        run.follow(go(None), go(None))
        self.assertTrue(run.is_outside)

    def test_lists_under_views_are_not_held(self):
        run = run_of(["self.a[1] = v", "return view self.a"], "v: .", "a: [[.], .]")
        run.follow(go(None), go(None))
        self.assertFalse(run.is_outside)
        run = run_of(["self.a[0][0] = v", "return view self.a"], "v: .", "a: [[.], .]")
        run.follow(go(None), go(None))
        self.assertTrue(run.is_outside)

    def test_rows_that_bind_words_and_fields(self):
        run = run_of(["x = p", "self.a = p"], "p: [.]", "a: [.]")
        run.follow(made("[.]"), go(0), go(0))
        self.assertFalse(run.is_outside)

    def test_each_deed_of_a_call_alone(self):
        run = run_of(["p[0] = f(new .)", "f(new .)"], "p: [.], f: . -> .")
        seen = []
        for deed in (made("[.]"), go(0, None), ("reply", None), ("reply", None)):
            run.do(deed)
            seen.append(run.is_outside)
        self.assertEqual(seen, [False, False, True, False])
        run = run_of(["p[0] = p[0]", "f(new .)"], "p: [.], f: . -> .")
        seen = []
        for deed in (made("[.]"), go(0, None), ("raise",)):
            run.do(deed)
            seen.append(run.is_outside)
        self.assertEqual(seen, [False, True, False])

    def test_a_list_handed_out_by_the_same_row(self):
        run = run_of(["self.a[0] = f(self.a)"], "f: [.] -> .", "a: [.]")
        run.follow(go(None), ("reply", None))
        self.assertTrue(run.is_outside)


class FollowTests(unittest.TestCase):
    def test_reports_and_errors(self):
        run = Run(kept_of(SHELF, "Shelf"))
        self.assertEqual(run.follow(), [])
        with self.assertRaises(ValueError):
            run.follow(made("[.]"), ("call", "put", (0, 0)), ("call", "put", (2, 0)), made("[.]"))
        self.assertEqual(run.account()[0], ("returns", None))
        self.assertEqual((len(run.hands()), run.calls), (1, 1))

    def test_what_was_told_stays(self):
        run = Run(kept_of(SHELF, "Shelf"))
        reports = run.follow(made("[.]"), ("call", "put", (0, 0)))
        inside, account, labels = run.insides(), run.account(), run.labels()
        run.follow(("put", 0, 0, None), ("call", "get", (1,)))
        self.assertEqual((reports, inside), ([("made", 0), ("returns", None)], {"rows": [[1], [0]]}))
        self.assertEqual(account, (("returns", None), (("list", "[.]", (1,)),)))
        self.assertEqual(labels, [("put", (0,), -1)])
        inside["rows"][0][0] = 9
        del inside["rows"][1]
        reports.clear()
        labels.clear()
        run.insides().clear()
        self.assertEqual(run.insides(), {"rows": [[2], [0]]})
        self.assertEqual(len(run.labels()), 2)

    def test_lists_of_insides_are_new(self):
        run = run_of(["self.b = self.a"], above="a: [.]; b: [.]")
        run.do(go())
        inside = run.insides()
        inside["a"][0] = 5
        self.assertEqual(run.insides(), {"a": [0], "b": [0]})

    def test_two_runs_side_by_side(self):
        kept = kept_of(SHELF, "Shelf")
        one, other = Run(kept), Run(kept)
        one.follow(made("[.]"), ("call", "put", (0, 0)))
        self.assertEqual((other.hands(), other.insides(), other.calls), ((), {"rows": [[0], [0]]}, 0))
        self.assertEqual(other.do(made("[[.]]")), ("made", 0))
        other.follow(("call", "get", (0,)), ("put", 2, 0, None))
        self.assertEqual(one.insides(), {"rows": [[1], [0]]})
        self.assertEqual(other.insides(), {"rows": [[2], [0]]})
        self.assertEqual(one.account()[0], ("returns", None))

    def test_a_run_equals_no_other(self):
        kept = kept_of(SHELF, "Shelf")
        self.assertNotEqual(Run(kept), Run(kept))
        self.assertNotEqual(Run(kept), kept)
