"""Makes pairs of classes with one face by chance, the same for one seed, and histories that both do."""

import random

from handedcopies.errors import HandedcopiesError
from handedcopies.faces import check_faces, check_lists
from handedcopies.families import Library
from handedcopies.mends import Mend, doors, mended
from handedcopies.running import Run
from handedcopies.shapes import Shape
from tests.makers import Chooser

FIELDS = ("a: [.]", "b: [.]", "c: [[.]]", "n: .")
PARAMETERS = ("p: [.]", "q: [.]", "v: .", "f: [.] -> [.]", "g: . -> .", "r: [[.]]", "i: 1", "h: [.] -> none")
METHODS = ("get", "go", "put", "set")
LISTS = ("self.a", "self.b", "p", "q", "x", "self.c[0]", "r[0]", "copy(self.a)", "copy(p)", "new [.]", "self.c[i]")
DEEP_LISTS = ("self.c", "r", "copy(self.c, 1)", "copy(r, 1)", "copy(r)", "new [[.]]")
PLAINS = ("self.a[0]", "p[0]", "v", "new .", "self.n", "x[0]", "self.b[0]", "self.c[0][0]", "r[0][0]", "q[0]")
RESULTS = (None, None, "return", "return", "return view", "return view", "plain", "deep", "deep view")


def fits(fields, parameters, rows):
    """Whether these rows fit in a class with these fields."""
    lines = ["class A:"] + [f"    {field}" for field in fields] + [f"    def go({', '.join(parameters)}):"]
    try:
        Library("\n".join(lines + [f"        {row}" for row in rows])).kept_of("A")
    except HandedcopiesError:
        return False
    return True


class CoupleMaker:
    """The text of two classes, One and Other, with the same methods and rows that are mostly alike."""

    def __init__(self, seed):
        self.rng = random.Random(seed)

    def pick(self, *choices):
        return self.rng.choice(choices)

    def list_term(self):
        term, chance = self.pick(*LISTS), self.rng.random()
        return f"f({term})" if chance < 0.2 else f"copy(f({term}))" if chance < 0.27 else term

    def plain_term(self):
        term = self.pick(*PLAINS)
        return f"g({term})" if self.rng.random() < 0.15 else term

    def row(self):
        chance = self.rng.random()
        if chance < 0.5:
            return f"{self.pick('self.a', 'self.b', 'x', 'self.c[0]', 'r[0]')} = {self.list_term()}"
        if chance < 0.65:
            return f"{self.pick('self.c', 'self.c', 'y')} = {self.pick(*DEEP_LISTS)}"
        if chance < 0.8:
            return f"{self.pick('f', 'h')}({self.pick(*LISTS)})"
        return f"{self.pick('self.a[0]', 'p[0]', 'self.b[0]', 'x[0]', 'self.c[0][0]', 'self.n')} = {self.plain_term()}"

    def return_row(self, result):
        if result == "plain":
            return f"return {self.plain_term()}"
        if result in ("deep", "deep view"):
            return f"{result.replace('deep', 'return')} {self.pick(*DEEP_LISTS)}"
        return f"{result} {self.list_term()}"

    def rows(self, fields, parameters, result, many):
        """So many rows that fit, and the return; None if none fits."""
        rows = []
        for _ in range(100):
            row = self.row()
            if len(rows) < many and fits(fields, parameters, rows + [row]):
                rows.append(row)
        if result is None:
            return rows
        for _ in range(100):
            row = self.return_row(result)
            if fits(fields, parameters, rows + [row]):
                return rows + [row]
        return None

    def method(self, name, fields):
        parameters = self.rng.sample(PARAMETERS, self.pick(0, 0, 1, 1, 2))
        result = self.pick(*RESULTS)
        mark = self.pick("def", "def", "def", "def", "def", "def", "enter", "exit")
        return (f"{mark} {name}({', '.join(parameters)}):", parameters, result,
                self.rows(fields, parameters, result, self.rng.randint(1, 4)))

    def changed(self, fields, method):
        """The method with a row left out, moved, or in another form."""
        line, parameters, result, rows = method
        chance, last = self.rng.random(), len(rows) - bool(result)
        at = self.rng.randrange(last) if last else 0
        if chance < 0.3:
            rows = rows[:at] + rows[at + 1:last] + rows[last:]
        elif chance < 0.6:
            rows = rows[:at] + rows[at + 1:at + 2] + rows[at:at + 1] + rows[at + 2:]
        elif chance < 0.8 and last:
            rows = rows[:at] + self.rows(fields, parameters, None, 1) + rows[at + 1:]
        else:
            rows = self.rows(fields, parameters, result, self.rng.randint(1, 4)) or rows
        return (line, parameters, result, rows)

    def text(self):
        fields = sorted(set(self.rng.sample(FIELDS + FIELDS[:1], self.rng.randint(1, 3))))
        methods = []
        for name in METHODS[:self.rng.randint(1, 4)]:
            made = self.method(name, fields)
            methods += [made] if made[3] is not None else []
        others = list(methods)
        for _ in range(self.pick(0, 1, 1, 1, 2) if methods else 0):
            at = self.rng.randrange(len(methods))
            others[at] = self.changed(fields, others[at])
        return "\n".join(class_lines("One", fields, methods) + class_lines("Other", fields, others))


def class_lines(name, fields, methods):
    lines = [f"class {name}:"] + [f"    {field}" for field in fields]
    for line, _, _, rows in methods:
        lines += [f"    {line}"] + [f"        {row}" for row in rows]
    return lines


def made_pair(seed):
    """Two kepts with one face, whose trials have no more than ten lists, some of them mended."""
    maker = CoupleMaker(seed)
    while True:
        try:
            library = Library(maker.text())
            one, other = library.kept_of("One"), library.kept_of("Other")
            if maker.rng.random() < 0.25:
                other = mended(one, some_mend(maker.rng, one))
            check_faces(one, other)
            check_lists(one, other)
            return one, other
        except HandedcopiesError:
            pass


def some_mend(rng, kept):
    """A mend of a kept by chance."""
    return Mend(*[(door, rng.randint(1, floors)) for door, floors in doors(kept) if rng.random() < 0.5])


class Pair:
    """Two runs that do the same deeds, chosen by chance for the first one."""

    def __init__(self, one, other, seed):
        self.chooser = Chooser(one, seed)
        self.first = self.chooser.run
        self.second = Run(other)
        self.deeds = []
        self.equal = []
        self.begun = None
        self.asks = 0

    def are_equal(self):
        return self.first.account() == self.second.account()

    def do(self, deed):
        self.deeds.append(deed)
        if deed[0] == "call":
            kinds = self.first.kept.face(deed[1])[1]
            self.begun = (deed[1], tuple(part for kind, part in zip(kinds, deed[2]) if isinstance(kind, int)))
            self.asks = 0
            self.chooser.kinds = kinds
        if deed[0] == "reply":
            self.asks += 1
        report = self.first.do(deed)
        self.second.do(deed)
        self.equal.append(self.are_equal())
        if report[0] == "asks":
            self.chooser.asked = self.chooser.kinds[report[1]][1]

    def put_new_values(self):
        """Puts a new value at each plain place of all lists that the caller holds, as a trial does."""
        for hand, (kind, text, _) in enumerate(self.first.hands()):
            for at, item in enumerate(Shape(text)):
                if kind == "list" and item.text == ".":
                    self.do(("put", hand, at, None))

    def step(self, *, puts_values):
        """Does one more deed and returns its word."""
        deed = self.chooser.deed()
        if puts_values and deed[0] in ("call", "reply", "raise"):
            self.put_new_values()
        self.do(deed)
        return deed[0]

    def could_part(self):
        """Whether a view shows a held list in one run, and not the same one in the other."""
        views = [(one, other) for one, other in zip(self.first.viewed_boxes(), self.second.viewed_boxes())]
        return any(one.hand != other.hand for one, other in views)
