"""Every joint world that trials lead to is that of two runs, and every trial that parts has a history (point 35)."""

import random
import unittest

from handedcopies.joints import first_joint, joint_of
from handedcopies.outcomes import outcomes_from
from handedcopies.parting import Replay
from handedcopies.running import Run
from handedcopies.sides import Couple
from tests.couples import made_pair
from tests.samples import kept_of
from tests.test_likeness import parts


class TrialTests(unittest.TestCase):
    def replayed(self, couple, ways):
        """The deeds of some calm trials, one after another."""
        replay = Replay(couple)
        for way in ways:
            replay.play_calm(*way)
        return replay

    def check_calm(self, couple, ways, lead):
        """Two runs that do what these trials do have equal accounts, and come to this joint world."""
        deeds = self.replayed(couple, ways).deeds
        runs = [Run(kept) for kept in couple.kepts]
        for deed in deeds:
            for run in runs:
                run.do(deed)
            self.assertEqual(runs[0].account(), runs[1].account(), deeds)
        self.assertEqual(joint_of(*runs), lead, deeds)
        self.assertEqual(runs[0].labels(), [label for _, label, _ in ways])

    def check_parting(self, couple, ways, way):
        replay = self.replayed(couple, ways)
        replay.play_parting(*way)
        self.assertTrue(parts(*couple.kepts, replay.deeds), replay.deeds)

    def check(self, one, other, most_joints, most_leads):
        """Replays the trials from some joint worlds; how many were calm, and how many were parted."""
        couple = Couple(one, other)
        first = first_joint(one, other)
        ways, joints = {first: []}, [first]
        rng = random.Random(len(one.library.text))
        calm = parted = 0
        for joint in joints:
            for outcome in outcomes_from(couple, joint):
                with self.subTest(text=one.library.text, joint=joint, label=outcome.label):
                    if outcome.parted is not None:
                        self.check_parting(couple, ways[joint], (joint, outcome.label, outcome.parted))
                        parted += 1
                    leads = list(outcome.leads)
                    for lead in rng.sample(leads, min(most_leads, len(leads))):
                        behind = ways[joint] + [(joint, outcome.label, outcome.leads[lead])]
                        self.check_calm(couple, behind, lead)
                        calm += 1
                        if lead not in ways and len(joints) < most_joints:
                            ways[lead] = behind
                            joints.append(lead)
        return calm, parted

    def check_rows(self, one_rows, other_rows, parameters, fields="a: [.]; b: [.]"):
        kepts = []
        for rows in (one_rows, other_rows):
            lines = ["class A:"] + [f"    {field}" for field in fields.split("; ")] + [f"    def go({parameters}):"]
            kepts.append(kept_of("\n".join(lines + [f"        {row}" for row in rows.split("; ")]), "A"))
        return self.check(*kepts, 40, 40)

    def test_asks(self):
        for parameters, rows, other_rows in (
                ("f: . -> [.]", "self.a = f(new .); self.b = f(new .)", "self.b = f(new .); self.a = f(new .)"),
                ("f: [.] -> .", "f(self.a); f(self.b); self.a[0] = new .", "f(self.a); f(self.b); self.b[0] = new ."),
                ("f: [.] -> [.]", "x = f(self.a); self.a = new [.]; self.b = f(self.b)",
                 "x = f(self.a); self.a = new [.]; self.b = f(x)"),
                ("f: [.] -> [.]", "x = f(self.a); y = f(self.b); self.a = x; self.b = y",
                 "x = f(self.a); y = f(self.b); self.a = y; self.b = x"),
                ("f: [.] -> [.], g: . -> .", "x = f(new [.]); y = f(new [.]); y[0] = g(new .); self.a = x",
                 "x = f(new [.]); y = f(new [.]); x[0] = g(new .); self.a = x"),
                ("f: . -> none, p: [.]", "self.a = p; f(new .); p[0] = new .; f(new .); self.b = copy(p)",
                 "self.a = p; f(new .); p[0] = new .; f(new .); self.b = copy(self.a)"),
                ("f: [[.], [.]] -> [.]", "self.a = f(new [[.], [.]]); self.b = f(new [[.], [.]])",
                 "self.b = f(new [[.], [.]]); self.a = f(new [[.], [.]])")):
            calm, _ = self.check_rows(rows, rows, parameters)
            self.assertGreater(calm, 0)
            self.check_rows(rows, other_rows, parameters)
            self.check_rows(other_rows, rows, parameters)

    def test_replies_that_were_handed_out(self):
        fields = "a: [.]; b: [.]; c: [.]; d: [[.], [.]]"
        for rows in ("x = f(self.a); y = f(self.b); self.c = y", "x = f(self.a); y = f(self.b); self.c = x",
                     "y = f(self.b); y = f(new [.]); y = f(self.a); self.c = y"):
            calm, _ = self.check_rows(rows, rows, "f: [.] -> [.]", fields)
            self.assertGreater(calm, 10)
        rows = "self.a = self.d[0]; self.b = self.d[1]; self.c = f(self.d)"
        calm, _ = self.check_rows(rows, rows, "f: [[.], [.]] -> [.]", fields)
        self.assertGreater(calm, 4)

    def test_items(self):
        fields = "a: [[.], [.]]; b: [.]; v: ."
        for parameters, rows, other_rows in (
                ("p: [.]", "self.b = self.a[0]; self.a[1] = p", "self.b = self.a[1]; self.a[0] = p"),
                ("p: [[.], [.]]", "self.a = p; self.b = p[0]", "self.a = p; self.b = p[1]"),
                ("p: [[.], [.]]", "self.a = copy(p, 1); self.b = p[0]", "self.a = p; self.b = p[0]"),
                ("p: [[.], [.]]", "self.a = copy(p); self.v = p[0][0]", "self.a = copy(p, 1); self.v = p[1][0]"),
                ("", "self.a[0] = self.b; return self.a", "self.a[1] = self.b; return self.a"),
                ("", "self.a[0] = self.b; return view self.a", "self.a[1] = self.b; return view self.a")):
            self.check_rows(rows, rows, parameters, fields)
            self.check_rows(rows, other_rows, parameters, fields)

    def test_by_chance(self):
        calm = parted = 0
        for seed in range(1000, 1150):
            done = self.check(*made_pair(seed), 8, 3)
            calm, parted = calm + done[0], parted + done[1]
        self.assertGreater(calm, 500)
        self.assertGreater(parted, 30)


if __name__ == "__main__":
    unittest.main()
