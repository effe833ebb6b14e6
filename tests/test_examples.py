"""The examples of the document (points 5, 20, 33 and 37)."""

import unittest

from handedcopies.checking import is_paper
from handedcopies.joints import first_joint, joint_of
from handedcopies.likeness import compare, is_likeness
from handedcopies.mends import Mend, mended
from handedcopies.reaching import reach
from handedcopies.running import Run
from handedcopies.shapes import Shape
from handedcopies.shutting import fewest_mend, is_least, least_mends, least_paper
from handedcopies.worlds import Table, first_world, labels_of, step
from tests.samples import SHELF, kept_of
from tests.test_joints import VIEWER
from tests.test_mends import GET, PUT

FIRST, ONE, TWO, BOTH = [(False, codes) for codes in ((-1, -1, -1), (-1, -3, -1), (-1, -1, -3), (-1, -3, -3))]


class ExampleTests(unittest.TestCase):
    def setUp(self):
        self.shelf = kept_of(SHELF, "Shelf")

    def test_shapes(self):
        self.assertEqual([Shape(text).depth for text in (".", "[.]", "[[.], [., .]]")], [0, 1, 2])

    def test_a_run_of_shelf(self):
        run = Run(self.shelf)
        self.assertEqual(run.account(), (None, ()))
        self.assertEqual(run.do(("make", "[.]")), ("made", 0))
        run.do(("call", "put", (1, 0)))
        self.assertEqual(run.hand_at("rows[1]"), 0)
        run.do(("put", 0, 0, None))
        self.assertEqual(run.insides(), {"rows": [[0], [2]]})
        self.assertEqual(run.do(("call", "get", (0,))), ("returns", 1))
        self.assertEqual((run.hand_at("rows[0]"), run.hand_at("rows")), (1, None))

    def test_worlds_of_shelf(self):
        self.assertEqual(list(Table(self.shelf)), [FIRST] + sorted([ONE, TWO]) + [BOTH])
        self.assertEqual(first_world(self.shelf), FIRST)
        for form in (FIRST, ONE, TWO, BOTH):
            for label in list(labels_of(self.shelf)):
                behind = [-3 if label[1][0] == at else code for at, code in enumerate(form[1][1:])]
                self.assertEqual(step(self.shelf, form, label), (False, (-1, *behind)))

    def test_goals_of_shelf(self):
        never, reached = reach(self.shelf, "rows"), reach(self.shelf, "rows[0]")
        self.assertEqual((bool(never), sorted(never.paper[1])), (False, sorted([FIRST, ONE, TWO, BOTH])))
        self.assertEqual((bool(reached), len(reached)), (True, 1))
        self.assertTrue(is_paper(self.shelf, "rows", never.paper))
        self.assertTrue(is_paper(self.shelf, "rows[0]", reached.paper))

    def test_the_least_mend_of_shelf(self):
        self.assertEqual([mend.pairs for mend in least_mends(self.shelf)], [((GET, 1), (PUT, 1))])
        self.assertEqual(fewest_mend(self.shelf).pairs, ((GET, 1), (PUT, 1)))
        self.assertTrue(is_least(self.shelf, least_paper(self.shelf)))

    def test_shelf_and_the_mended_one(self):
        shut = mended(self.shelf, Mend((GET, 1), (PUT, 1)))
        history = (("make", "[.]"), ("call", "put", (0, 0)), ("call", "get", (0,)))
        self.assertEqual([Run(kept).follow(*history)[-1] for kept in (self.shelf, shut)],
                         [("returns", 0), ("returns", 1)])
        self.assertTrue(is_likeness(self.shelf, shut, ("parted", history)))
        self.assertFalse(compare(self.shelf, shut))
        self.assertTrue(compare(self.shelf, self.shelf))
        self.assertTrue(compare(shut, shut))

    def test_a_joint_world_of_shelf(self):
        runs = Run(self.shelf), Run(self.shelf)
        self.assertEqual(joint_of(*runs), first_joint(self.shelf, self.shelf))
        for run in runs:
            run.do(("call", "get", (0,)))
        self.assertEqual(joint_of(*runs), (False, (-1, -3, -1, 0), (-1, 1, -1, 0), ()))

    def test_a_joint_world_with_a_window(self):
        kept = kept_of(VIEWER, "A")
        look, setting = ("call", "look", ()), ("call", "set", (None,))
        for deeds in ((look, setting), (setting, look)):
            runs = Run(kept), Run(kept)
            for run in runs:
                run.follow(*deeds)
            self.assertEqual(joint_of(*runs), (False, (-1, 1), (-1, 1), ((0, 1),)))

    def test_views_and_a_list_are_three_hands(self):
        run = Run(kept_of(VIEWER, "A"))
        look, get = ("call", "look", ()), ("call", "get", ())
        self.assertEqual(run.follow(look, look, get), [("returns", 0), ("returns", 1), ("returns", 2)])
        self.assertEqual([hand[0] for hand in run.hands()], ["view", "view", "list"])


if __name__ == "__main__":
    unittest.main()
