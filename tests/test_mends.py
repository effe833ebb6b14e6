"""Doors, mends, and the classes that show them (points 27, 28 and 31)."""

import itertools
import random
import unittest

from handedcopies.errors import BadMend, BadName, NoDoor, TooMany
from handedcopies.families import Library
from handedcopies.mends import Mend, doors, mend_text, mended
from handedcopies.running import Run
from tests.couples import some_mend
from tests.makers import made_kept
from tests.samples import SHELF, STRANGE_VALUES, kept_of

GET = ("get", "result", -1)
PUT = ("put", "in", 1)

EVERY = """class Base:
    a: [[[.]], .]
    b: [[.]]
    def all(i: 3, f: [[.]] -> [., .], p: [[.]]):
        self.b = p
        x = f(self.b)
        return self.a
    enter ask(f: . -> [[.], .], g: [.] -> ., h: . -> none):
        f(new .)
        g(new [.])
        h(new .)
    exit look(v: .):
        return view self.b
    def plain(v: ., i: 1):
        return v
    def tell(f: [[[.]]] -> none):
        f(new [[[.]]])
class Every(Base):
    def all(j: 3, w: [[.]] -> [., .], q: [[.]]):
        return super(j, wrap(w, 1, 0), q)"""

EVERY_DOORS = [
    (("all", "back", 1), 1), (("all", "in", 2), 2), (("all", "out", 1), 2), (("all", "result", -1), 3),
    (("ask", "back", 0), 2), (("ask", "out", 1), 1), (("look", "result", -1), 2), (("tell", "out", 0), 3)]


class DoorTests(unittest.TestCase):
    def test_doors(self):
        self.assertEqual(doors(kept_of(SHELF, "Shelf")), [(GET, 1), (PUT, 1)])
        self.assertEqual(doors(kept_of(EVERY, "Base")), EVERY_DOORS)
        self.assertEqual(doors(kept_of(EVERY, "Every")), EVERY_DOORS)
        self.assertEqual(doors(kept_of("class A:\n    a: [.]\n    def go(v: ., i: 2, f: . -> .):", "A")), [])

    def test_lists_are_new(self):
        kept = kept_of(SHELF, "Shelf")
        doors(kept).clear()
        self.assertEqual(doors(kept=kept), [(GET, 1), (PUT, 1)])


class MendTests(unittest.TestCase):
    def test_attributes(self):
        mend = Mend((PUT, 1), (GET, 3), (("all", "back", 0), 2))
        pairs = ((("all", "back", 0), 2), (GET, 3), (PUT, 1))
        self.assertEqual((mend.pairs, len(mend), mend.floors, list(mend), bool(mend)), (pairs, 3, 6, list(pairs), True))
        self.assertEqual([mend[PUT], mend[GET], mend["all", "back", 0], mend["put", "in", 0], mend["all", "out", 0]],
                         [1, 3, 2, 0, 0])
        none = Mend()
        self.assertEqual((none.pairs, len(none), none.floors, list(none), bool(none), none[GET]),
                         ((), 0, 0, [], False, 0))

    def test_equality(self):
        self.assertEqual(Mend((PUT, 1), (GET, 1)), Mend((GET, 1), (PUT, 1)))
        self.assertNotEqual(Mend((PUT, 1)), Mend((PUT, 2)))
        self.assertNotEqual(Mend((PUT, 1)), Mend((GET, 1)))
        self.assertNotEqual(Mend(), ())
        self.assertNotEqual(Mend((PUT, 1)), ((PUT, 1),))

    def test_none_and_all(self):
        self.assertEqual(Mend.none(), Mend())
        self.assertEqual(Mend.all_of(kept_of(SHELF, "Shelf")), Mend((GET, 1), (PUT, 1)))
        self.assertEqual(Mend.all_of(kept=kept_of(EVERY, "Every")), Mend(*EVERY_DOORS))
        self.assertEqual(Mend.all_of(kept_of("class A:", "A")), Mend.none())

    def test_greater_and_lesser(self):
        one, other = Mend((PUT, 1), (GET, 3)), Mend((GET, 2), (("a", "out", 2), 1))
        self.assertEqual(one | other, Mend((PUT, 1), (GET, 3), (("a", "out", 2), 1)))
        self.assertEqual(one & other, Mend((GET, 2)))
        self.assertEqual(one & Mend((PUT, 2)), Mend((PUT, 1)))
        self.assertEqual((one | Mend(), one & Mend(), Mend() | one), (one, Mend(), one))
        self.assertEqual((one, other), (Mend((PUT, 1), (GET, 3)), Mend((GET, 2), (("a", "out", 2), 1))))

    def test_at_each_door(self):
        rng = random.Random(5)
        names = [("a", "in", 0), ("a", "out", 1), ("b", "back", 2), ("b", "result", -1)]
        for _ in range(200):
            one, other = [{door: rng.randint(0, 3) for door in names} for _ in range(2)]
            mends = [Mend(*[pair for pair in part.items() if pair[1]]) for part in (one, other)]
            self.assertEqual([(mends[0] | mends[1])[door] for door in names], [max(one[d], other[d]) for d in names])
            self.assertEqual([(mends[0] & mends[1])[door] for door in names], [min(one[d], other[d]) for d in names])
            within = all(one[door] <= other[door] for door in names)
            self.assertIs(mends[0].within(mends[1]), within)
            self.assertIs(mends[0].within(other=mends[0]), True)
            self.assertEqual(mends[0] | mends[1] == mends[1], within)

    def test_within(self):
        self.assertTrue(Mend().within(Mend()))
        self.assertTrue(Mend().within(Mend((PUT, 1))))
        self.assertFalse(Mend((PUT, 1)).within(Mend()))
        self.assertTrue(Mend((PUT, 1)).within(Mend((PUT, 2), (GET, 1))))
        self.assertFalse(Mend((PUT, 2), (GET, 1)).within(Mend((PUT, 1), (GET, 3))))

    def test_every_door_by_form(self):
        for way, at in itertools.product(("back", "in", "out", "result"), range(-3, 5)):
            is_right = at == -1 if way == "result" else 0 <= at <= 2
            for floors in range(-1, 5):
                pair = (("word", way, at), floors)
                if is_right and 1 <= floors <= 3:
                    self.assertEqual(Mend(pair).pairs, (pair,))
                else:
                    self.refuses(0, pair)

    def refuses(self, at, *pairs):
        with self.subTest(pairs=str(pairs)[:200]), self.assertRaises(BadMend) as caught:
            Mend(*pairs)
        self.assertEqual(caught.exception.at, at)

    def test_wrong_pairs(self):
        for value in STRANGE_VALUES:
            self.refuses(0, value)
            self.refuses(1, (PUT, 1), value)
            self.refuses(0, (value, 1), value)
            self.refuses(0, ((value, "in", 1), 1))
            self.refuses(0, (("put", value, 1), 1))
            if type(value) is not int or not 1 <= value <= 3:
                self.refuses(0, (PUT, value))
            if type(value) is not int or not 0 <= value <= 2:
                self.refuses(0, (("put", "in", value), 1))
            if type(value) is not int or value != -1:
                self.refuses(0, (("get", "result", value), 1))
        for wrong in ([PUT, 1], (list(PUT), 1), (PUT, 1, 1), (PUT,), (PUT + (1,), 1), (PUT[:2], 1), (PUT, "1"), PUT,
                      (("Put", "in", 1), 1), (("copy", "in", 1), 1), (("ninechars", "in", 1), 1), (("", "in", 1), 1),
                      (("put", "in", True), 1), (PUT, True), (("put", "IN", 1), 1), (("put", "in", "1"), 1)):
            self.refuses(0, wrong)
            self.refuses(2, (PUT, 1), (GET, 1), wrong, wrong)

    def test_a_door_twice(self):
        self.refuses(1, (PUT, 1), (PUT, 1))
        self.refuses(2, (PUT, 1), (GET, 1), (PUT, 2), (GET, 1))
        self.refuses(1, (PUT, 1), (PUT, 7))


class MendTextTests(unittest.TestCase):
    def test_shelf(self):
        kept = kept_of(SHELF, "Shelf")
        self.assertEqual(mend_text(kept, Mend.all_of(kept)), "\n".join([
            "class Mended(Shelf):", "    def get(at: 2):", "        return copy(super(at), 1)",
            "    def put(at: 2, row: [.]):", "        super(at, copy(row, 1))"]))
        self.assertEqual(mend_text(kept, Mend((PUT, 1)), name="Shut"), "\n".join([
            "class Shut(Shelf):", "    def put(at: 2, row: [.]):", "        super(at, copy(row, 1))"]))
        self.assertEqual(mend_text(kept=kept, mend=Mend.none(), name="Z"), "class Z(Shelf):")

    def test_every_form_of_a_row(self):
        kept = kept_of(EVERY, "Every")
        self.assertEqual(mend_text(kept, Mend.all_of(kept)), "\n".join([
            "class Mended(Every):",
            "    def all(j: 3, w: [[.]] -> [., .], q: [[.]]):",
            "        return copy(super(j, wrap(w, 2, 1), copy(q, 2)), 3)",
            "    enter ask(f: . -> [[.], .], g: [.] -> ., h: . -> none):",
            "        super(wrap(f, 0, 2), wrap(g, 1, 0), h)",
            "    exit look(v: .):",
            "        return view copy(super(v), 2)",
            "    def tell(f: [[[.]]] -> none):",
            "        super(wrap(f, 3, 0))"]))
        self.assertEqual(mend_text(kept, Mend((("all", "in", 2), 1), (("look", "result", -1), 1))), "\n".join([
            "class Mended(Every):",
            "    def all(j: 3, w: [[.]] -> [., .], q: [[.]]):",
            "        return super(j, w, copy(q, 1))",
            "    exit look(v: .):",
            "        return view copy(super(v), 1)"]))
        self.assertEqual(mend_text(kept, Mend((("all", "back", 1), 1))).split("\n")[-1],
                         "        return super(j, wrap(w, 0, 1), q)")
        text = "class A:\n    def look(p: [.]):\n        return view p"
        self.assertEqual(mend_text(kept_of(text, "A"), Mend((("look", "in", 0), 1))).split("\n")[-1],
                         "        return view super(copy(p, 1))")

    def test_mended(self):
        kept = kept_of(EVERY, "Every")
        made = mended(kept, Mend.all_of(kept))
        self.assertEqual((made.name, made.fields, made.methods), ("Mended", kept.fields, kept.methods))
        self.assertEqual(made.library.text, EVERY + "\n" + mend_text(kept, Mend.all_of(kept)))
        self.assertEqual(made.library, Library.of(EVERY, mend_text(kept, Mend.all_of(kept))))
        self.assertEqual([made.face(method) for method in made.methods], [kept.face(method) for method in kept.methods])
        self.assertEqual([made.asks(method) for method in made.methods], [kept.asks(method) for method in kept.methods])
        self.assertEqual(made.owners("all"), ["Mended", "Every", "Base"])
        self.assertEqual(made.owners("plain"), ["Base"])
        self.assertEqual(mended(kept=kept, mend=Mend(), name="New").owners("all"), ["Every", "Base"])

    def test_by_chance(self):
        rng = random.Random(3)
        for seed in range(80):
            kept = made_kept(seed)
            mend = some_mend(rng, kept)
            made = mended(kept, mend)
            self.assertEqual(doors(made), doors(kept))
            self.assertEqual([made.face(method) for method in made.methods], [kept.face(name) for name in kept.methods])
            self.assertEqual(sorted({door[0] for door, _ in mend}),
                             [name for name in made.methods if made.owners(name)[0] == "Mended"])

    def test_bad_names(self):
        kept = kept_of(SHELF, "Shelf")
        for ask in (mend_text, mended):
            for name in STRANGE_VALUES + ("shelf", "Shelf", "Guarded", "Ninechars", "ABc", "A1", "Mended ", "M\n"):
                with self.assertRaises(BadName) as caught:
                    ask(kept, Mend((GET, 3)), name=name)
                self.assertIs(caught.exception.name, name)
            for name in ("A", "Mended", "Eightchr"):
                ask(kept, Mend((GET, 1)), name=name)
        made = mended(kept, Mend())
        with self.assertRaises(BadName):
            mended(made, Mend())
        self.assertEqual(mended(made, Mend((GET, 1)), name="More").owners("get"), ["More", "Shelf"])

    def test_no_doors(self):
        kept = kept_of(SHELF, "Shelf")
        for ask in (mend_text, mended):
            for mend, door in ((Mend((GET, 2), (PUT, 1)), GET), (Mend((GET, 1), (PUT, 3)), PUT),
                               (Mend((("put", "in", 0), 1), (PUT, 2)), ("put", "in", 0)),
                               (Mend((("put", "result", -1), 1), (PUT, 2)), PUT),
                               (Mend((("put", "result", -1), 1)), ("put", "result", -1)),
                               (Mend((("zoo", "in", 0), 1), (("got", "in", 0), 1)), ("got", "in", 0))):
                with self.assertRaises(NoDoor) as caught:
                    ask(kept, mend)
                self.assertEqual(caught.exception.door, door)

    def test_too_many_classes(self):
        lines = [f"class {name}:" for name in "ABCDEF"]
        seven = kept_of(SHELF.split("class Guarded")[0] + "\n".join(lines), "Shelf")
        self.assertEqual(mended(seven, Mend((PUT, 1))).owners("put"), ["Mended", "Shelf"])
        eight = kept_of(SHELF + "\n" + "\n".join(lines), "Shelf")
        self.assertEqual(len(eight.library), 8)
        for ask in (mend_text, mended):
            with self.assertRaises(TooMany) as caught:
                ask(eight, Mend())
            self.assertEqual(caught.exception.what, "classes")
            with self.assertRaises(BadName):
                ask(eight, Mend((GET, 2)), name="F")
            with self.assertRaises(NoDoor):
                ask(eight, Mend((GET, 2)))


class MendedRunTests(unittest.TestCase):
    """Runs of a mended class: which lists are copied, and which are the very lists."""

    def runs(self, text, *pairs):
        kept = kept_of(text, "A")
        return Run(kept), Run(mended(kept, Mend(*pairs)))

    def test_in(self):
        text = "class A:\n    a: [[.], .]\n    def put(p: [[.], .]):\n        self.a = p"
        deeds = (("make", "[[.], .]"), ("call", "put", (0,)), ("put", 1, 0, None))
        door = ("put", "in", 0)
        for pairs, top, low in (((), 0, 1), (((door, 1),), None, 1), (((door, 2),), None, None)):
            plain, run = self.runs(text, *pairs)
            self.assertEqual(run.follow(*deeds), plain.follow(*deeds))
            self.assertEqual((run.hand_at("a"), run.hand_at("a[0]")), (top, low))
            self.assertEqual((plain.hand_at("a"), plain.hand_at("a[0]")), (0, 1))
            self.assertEqual(run.insides(), {"a": [[1 if low is None else 3], 2]})

    def test_result(self):
        text = "class A:\n    a: [[.], .]\n    def get():\n        return self.a"
        for floors, hands in ((0, (0, 1)), (1, (None, 1)), (2, (None, None))):
            _, run = self.runs(text, *[(("get", "result", -1), floors)][:floors])
            self.assertEqual(run.do(("call", "get", ())), ("returns", 0))
            self.assertEqual(run.hands(), (("list", "[[.], .]", (1, 0)), ("list", "[.]", (0,))))
            self.assertEqual((run.hand_at("a"), run.hand_at("a[0]")), hands)

    def test_view(self):
        text = "class A:\n    a: [[.], .]\n    def look():\n        return view self.a"
        for floors, seen, held in ((0, True, 1), (1, False, 1), (2, False, None)):
            _, run = self.runs(text, *[(("look", "result", -1), floors)][:floors])
            self.assertEqual(run.do(("call", "look", ())), ("returns", 0))
            self.assertEqual(run.hands(), (("view", "[[.], .]", (1, 0)), ("list", "[.]", (0,))))
            self.assertEqual((run.is_seen("a"), run.hand_at("a"), run.hand_at("a[0]")), (seen, None, held))

    def test_out_and_back(self):
        text = "class A:\n    a: [[.]]\n    b: [[.]]\n    def ask(f: [[.]] -> [[.]]):\n        self.b = f(self.a)"
        for out, back in itertools.product(range(3), repeat=2):
            pairs = [((("ask", "out", 0)), out)] * bool(out) + [(("ask", "back", 0), back)] * bool(back)
            _, run = self.runs(text, *pairs)
            run.follow(("call", "ask", (None,)), ("make", "[[.]]"), ("reply", 2))
            self.assertEqual((run.hand_at("a"), run.hand_at("a[0]")), ((0, 1), (None, 1), (None, None))[out])
            self.assertEqual((run.hand_at("b"), run.hand_at("b[0]")), ((2, 3), (None, 3), (None, None))[back])

    def test_own_calls_are_no_doors(self):
        text = "\n".join([
            "class Base:", "    a: [.]", "    def put(p: [.]):", "        self.a = p", "        return self.a",
            "class A(Base):", "    def put(p: [.]):", "        x = super(p)", "        return x"])
        _, run = self.runs(text, (("put", "in", 0), 1))
        run.follow(("make", "[.]"), ("call", "put", (0,)))
        self.assertEqual((run.hand_at("a"), run.hands()[1]), (1, ("list", "[.]", (1,))))
        _, run = self.runs(text, (("put", "result", -1), 1))
        run.follow(("make", "[.]"), ("call", "put", (0,)))
        self.assertEqual((run.hand_at("a"), len(run.hands())), (0, 2))

    def test_a_list_at_two_places(self):
        text = "class A:\n    a: [[.], [.]]\n    def put(p: [[.], [.]]):\n        self.a = p"
        for floors, is_same in ((0, True), (1, True), (2, False)):
            _, run = self.runs(text, *[(("put", "in", 0), floors)][:floors])
            run.follow(("make", "[[.], [.]]"), ("put", 0, 1, 1), ("call", "put", (0,)))
            self.assertIs(run.same("a[0]", "a[1]"), is_same)

    def test_words_wrapped_twice_copy_the_greater_number(self):
        kept = kept_of(EVERY, "Every")
        door = ("all", "out", 1)
        for mend, is_shared in ((Mend(), True), (Mend((door, 1)), True), (Mend((door, 2)), False)):
            run = Run(mended(kept, mend))
            run.follow(("make", "[[[.]], .]"), ("make", "[[.]]"), ("call", "all", (0, None, 3)))
            self.assertEqual(run.hands()[5][:2], ("list", "[[.]]"))
            self.assertEqual((run.hand_at("b"), run.hand_at("b[0]")), (3, 4))
            self.assertIs(run.hands()[5][2] == (4,), is_shared)


if __name__ == "__main__":
    unittest.main()
