"""Wrong deeds and other wrong values given to a run: which error, and that nothing is changed (point 17)."""

import unittest

from handedcopies.errors import BadDeed, BadPlace, Busy, NotAsked, Shut
from handedcopies.running import Run
from tests.samples import STRANGE_VALUES, kept_of

TEXT = """class A:
    rows: [[.], [.]]
    one: [., [.]]
    v: .
    def put(at: 2, row: [.]):
        self.rows[at] = row
    def look():
        return view self.one
    def ask(f: [.] -> [.], g: . -> ., h: . -> none):
        x = f(self.rows[0])
        g(self.v)
        h(self.v)
    enter start():
    exit stop(f: . -> none):
        f(new .)"""
ASK = ("call", "ask", (None, None, None))


def strange_but(*right):
    """Strange values that are none of these."""
    return [value for value in STRANGE_VALUES if not any(
        type(value) is type(other) and value == other for other in right)]


def state_of(run):
    """All that a run tells."""
    places = list(run.kept.places())
    return (run.account(), run.insides(), run.labels(), run.calls, run.is_busy, run.is_open, run.is_outside,
            [(run.hand_at(place), run.is_seen(place)) for place in places],
            None if run.is_busy else run.world())


class WrongDeeds(unittest.TestCase):
    """Hands of the run: 0 and 1 to 2 a list and its items, 3 a list, 4 a view and 5 what it shows."""

    def setUp(self):
        self.run_ = Run(kept_of(TEXT, "A"))
        self.run_.follow(("make", "[[.], [.]]"), ("make", "[., .]"), ("call", "look", ()))
        self.assertEqual([(kind, shape) for kind, shape, _ in self.run_.hands()], [
            ("list", "[[.], [.]]"), ("list", "[.]"), ("list", "[.]"), ("list", "[., .]"), ("view", "[., [.]]"),
            ("list", "[.]")])

    def check(self, deed, kind=BadDeed):
        before = state_of(self.run_)
        with self.subTest(deed=str(deed)[:80]), self.assertRaises(kind) as caught:
            self.run_.do(deed)
        if kind == BadDeed:
            self.assertIs(caught.exception.deed, deed)
        if kind == Shut:
            self.assertEqual(caught.exception.method, deed[1])
        self.assertEqual(state_of(self.run_), before)

    def check_all(self, *deeds):
        for deed in deeds:
            self.check(deed)

    def test_values_that_are_no_deeds(self):
        for value in STRANGE_VALUES:
            self.check_all(value, (value,), (value, "[.]"), (value, 0, 0, 1), (value, "look", ()))
        self.check_all(("Make", "[.]"), ("world",), "make", ("make ", "[.]"), ["make", "[.]"], ["raise"], "raise",
                       ["call", "look", ()], (("make", "[.]"),), {"make": "[.]"}, (b"make", "[.]"))

    def test_lengths(self):
        self.check_all(("make",), ("make", "[.]", None), ("put", 0, 0), ("put", 0, 0, 1, 1), ("call", "look"),
                       ("call", "look", (), ()), ("call",), ("put",), ("reply",), ("reply", None, None),
                       ("raise", None))
        self.run_.do(ASK)
        self.check_all(("reply",), ("reply", 1, 1), ("raise", None), ("raise", ()), ("call", "look"))

    def test_make(self):
        for value in STRANGE_VALUES:
            self.check(("make", value))
        self.check_all(("make", "."), ("make", "[]"), ("make", "[.,.]"), ("make", "[[[[.]]]]"), ("make", " [.]"),
                       ("make", "[.]\n"), ("make", "[., ., ., .]"), ("make", "[[.], [.], [.], [[.]]]"),
                       ("make", ["."]), ("make", ("[.]",)))
        self.assertEqual(self.run_.do(("make", "[[[.]]]")), ("made", 6))

    def test_put(self):
        for value in strange_but(0):
            self.check(("put", value, 0, 1))
        for value in strange_but(0, 1):
            self.check(("put", 0, value, 1))
        for value in strange_but(1):
            self.check(("put", 0, 0, value))
        for value in strange_but(None):
            self.check(("put", 1, 0, value))
        self.check_all(("put", 6, 0, None), ("put", -1, 0, None), ("put", 4, 0, None), ("put", 4, 1, 5),
                       ("put", 0, 2, 1), ("put", 0, -1, 1), ("put", 0, 0, 0), ("put", 0, 0, 3), ("put", 0, 0, 4),
                       ("put", 0, 0, 6), ("put", 0, 0, -1), ("put", 0, 0, None), ("put", 3, 0, 1), ("put", 3, 2, None),
                       ("put", 0, False, 1), ("put", 0, 0, True), ("put", False, 0, 1), ("put", 1, 0, 0))
        self.assertEqual(self.run_.follow(("put", 0, 1, 5), ("put", 3, 1, None)), [("put",), ("put",)])

    def test_call(self):
        for value in STRANGE_VALUES:
            self.check_all(("call", value, ()), ("call", "put", value))
        for value in strange_but(()):
            self.check(("call", "look", value))
        for value in strange_but(0, 1):
            self.check(("call", "put", (value, 1)))
        for value in strange_but(1):
            self.check(("call", "put", (0, value)))
        for value in strange_but(None):
            self.check_all(("call", "stop", (value,)), ("call", "ask", (None, value, None)))
        self.check_all(("call", "Look", ()), ("call", "rows", ()), ("call", "look", (None,)), ("call", "look", []),
                       ("call", "put", ()), ("call", "put", (0,)), ("call", "put", (0, 1, None)),
                       ("call", "put", [0, 1]), ("call", "put", (2, 1)), ("call", "put", (-1, 1)),
                       ("call", "put", (True, 1)), ("call", "put", (False, 1)), ("call", "put", (None, 1)),
                       ("call", "put", (0, None)), ("call", "put", (0, 0)), ("call", "put", (0, 3)),
                       ("call", "put", (0, 4)), ("call", "put", (0, 6)), ("call", "put", (0, -1)),
                       ("call", "put", (0, True)), ("call", "put", (1, 0)), ("call", "ask", (None, None)),
                       ("call", "ask", (None, None, 0)), ("call", "ask", (1, None, None)))
        self.assertEqual(self.run_.do(("call", "put", (0, 1))), ("returns", None))

    def test_wrong_plain_arguments(self):
        self.run_ = Run(kept_of("class A:\n    def go(p: ., i: 1, q: .):", "A"))
        self.run_.do(("make", "[.]"))
        self.check_all(("call", "go", (0, 0, None)), ("call", "go", (None, 0, 1)), ("call", "go", (None, 1, None)),
                       ("call", "go", (False, 0, None)), ("call", "go", (None, None, None)))
        self.assertEqual(self.run_.do(("call", "go", (None, 0, None))), ("returns", None))

    def test_reply_and_raise_without_an_ask(self):
        for deed in (("reply", None), ("reply", 0), ("reply", 10 ** 29), ("raise",)):
            self.check(deed, NotAsked)
        for value in strange_but(None, 0, 1, 10 ** 29):
            self.check(("reply", value))
        self.check_all(("reply", -1), ("reply", True), ("reply", "0"), ("reply", [0]), ("reply", (0,)))

    def test_replies_that_do_not_fit(self):
        self.assertEqual(self.run_.do(ASK), ("asks", 0, 6))
        for value in strange_but(1):
            self.check(("reply", value))
        self.check_all(("reply", None), ("reply", 0), ("reply", 3), ("reply", 4), ("reply", 7), ("reply", -1),
                       ("reply", True))
        self.assertEqual(self.run_.do(("reply", 1)), ("asks", 1, 0))
        for value in strange_but(None):
            self.check(("reply", value))
        self.assertEqual(self.run_.do(("reply", None)), ("asks", 2, 0))
        self.check_all(("reply", 1), ("reply", 0), ("reply", False))
        self.assertEqual(self.run_.do(("reply", None)), ("returns", None))

    def test_calls_while_busy_or_shut(self):
        self.check(("call", "stop", (None,)), Shut)
        self.check(("call", "stop", (0,)))
        self.check(("call", "stop", ()))
        self.run_.do(("call", "start", ()))
        self.check(("call", "start", ()), Shut)
        self.check(("call", "start", (None,)))
        self.run_.do(ASK)
        self.check(("call", "look", ()), Busy)
        self.check(("call", "start", ()), Busy)
        self.check(("call", "look", (0,)))
        self.check(("call", "no", ()))
        self.run_.do(("raise",))
        self.check(("call", "start", ()), Shut)
        self.assertEqual(self.run_.do(("call", "stop", (None,))), ("asks", 0, 0))
        self.run_.do(("reply", None))
        self.check(("call", "stop", (None,)), Shut)

    def test_makes_and_puts_while_busy(self):
        self.run_.do(ASK)
        self.check_all(("make", "."), ("put", 0, 0, 0), ("put", 4, 0, None), ("put", 7, 0, None))
        self.assertEqual(self.run_.follow(("make", "[.]"), ("put", 0, 0, 7)), [("made", 7), ("put",)])

    def test_follow_ends_at_the_wrong_deed(self):
        wrong = ("put", 0, 0, 9)
        with self.assertRaises(BadDeed) as caught:
            self.run_.follow(("make", "[.]"), wrong, ("make", "[[.]]"))
        self.assertIs(caught.exception.deed, wrong)
        self.assertEqual(len(self.run_.hands()), 7)

    def test_places(self):
        asks = (self.run_.hand_at, self.run_.is_seen, lambda place: self.run_.same(place, "rows"),
                lambda place: self.run_.same("rows", place), lambda place: self.run_.same(place, "no"))
        near = ("Rows", "rows[2]", "rows[0][0]", "v", "rows[0", "one[0]", "self.rows", "seen rows", "rows ", "outside")
        for value in STRANGE_VALUES + near:
            for ask in asks:
                with self.subTest(place=str(value)[:50]), self.assertRaises(BadPlace) as caught:
                    ask(value)
                self.assertIs(caught.exception.place, value)
        self.assertEqual([self.run_.hand_at(place) for place in self.run_.kept.places()], [None, None, None, None, 5])
        self.assertEqual([self.run_.is_seen(place) for place in self.run_.kept.places()],
                         [False, False, False, True, True])
