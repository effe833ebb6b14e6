"""Runs of texts and histories made by chance, beside the same classes in Python (points 13 to 22)."""

import unittest

from handedcopies.forms import is_form
from handedcopies.running import Run
from handedcopies.worlds import Table, first_world, step
from tests.makers import Chooser, made_kept
from tests.pythons import History

SEEDS = range(150)
LENGTH = 30


def told_by(run, report):
    """What a run tells behind a deed, as History does."""
    places = list(run.kept.places())
    return {
        "report": report, "hands": run.hands(), "insides": run.insides(), "busy": run.is_busy, "open": run.is_open,
        "calls": run.calls, "outside": run.is_outside, "labels": run.labels(),
        "hand_at": {place: run.hand_at(place) for place in places},
        "seen": {place: run.is_seen(place) for place in places},
        "same": [(one, other) for one in places for other in places if run.same(one, other)],
        "world": None if run.is_busy else run.world(),
    }


class HistoryTests(unittest.TestCase):
    def test_as_in_python(self):
        for seed in SEEDS:
            kept = made_kept(seed)
            chooser = Chooser(kept, seed)
            deeds, told = [], []
            for _ in range(LENGTH):
                deed, report = chooser.step()
                deeds.append(deed)
                told.append(told_by(chooser.run, report))
                self.assertEqual(chooser.run.account(), (report, chooser.run.hands()))
            for at, (own, other) in enumerate(zip(told, History(kept, deeds).play(), strict=True)):
                with self.subTest(seed=seed, text=kept.library.text, deeds=deeds[:at + 1]):
                    self.assertEqual(own, other)

    def test_follow_does_the_same(self):
        for seed in SEEDS[:20]:
            chooser = Chooser(made_kept(seed), seed)
            pairs = [chooser.step() for _ in range(LENGTH)]
            run = Run(chooser.kept)
            self.assertEqual(run.follow(*[deed for deed, _ in pairs]), [report for _, report in pairs])
            self.assertEqual(told_by(run, None), told_by(chooser.run, None))

    def test_worlds_depend_on_labels_alone(self):
        for seed in SEEDS:
            kept = made_kept(seed)
            table = Table(kept)
            chooser = Chooser(kept, -seed)
            form = first_world(kept)
            for _ in range(LENGTH):
                _, report = chooser.step()
                if report[0] in ("returns", "raised"):
                    form = step(kept, form, chooser.run.labels()[-1])
                    self.assertEqual(form, chooser.run.world(), (seed, kept.library.text))
                    self.assertIn(form, table)
                    self.assertTrue(is_form(kept, form))
                    self.assertLessEqual(table.depth_of(form), chooser.run.calls)
            self.assertEqual(table.follow(*chooser.run.labels()), form)
