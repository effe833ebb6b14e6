"""Makes texts with rows that fit and histories that can be done, by chance, the same for one seed."""

import random

from handedcopies.errors import TooMany
from handedcopies.families import Library
from handedcopies.running import Run
from handedcopies.shapes import Shape

SHAPES = (".", "[.]", "[.]", "[., .]", "[[.]]", "[[.], .]", "[[.], [.]]", "[., [.]]", "[[[.]]]", "[[.], [.], [.]]")
WORDS = ("p", "q", "x", "y", "a")
FIELDS = ("a", "b", "c", "x")
METHODS = ("get", "go", "keep", "put")
HIERARCHIES = (
    ("A",), ("A",), ("A", "B(A)"), ("A", "B(A)", "C(B)"), ("A", "B", "C(A, B)"), ("A", "B(A)", "C(A)", "D(B, C)"),
    ("A", "B", "C(A)", "D(C, B)"),
)


def paths_below(path, shape, indexes):
    """All (path, shape) of a value and of what is below it, by integers and by words."""
    found = [(path, shape.text)]
    for at, item in enumerate(shape):
        found += paths_below(f"{path}[{at}]", item, indexes)
    for word, many in indexes.items():
        if 0 < many <= len(shape) and all(shape[at] == shape[0] for at in range(many)):
            found += paths_below(f"{path}[{word}]", shape[0], indexes)
    return [(path, text) for path, text in found if path.count("[") <= 3]


class DefinitionMaker:
    """The rows of one definition."""

    def __init__(self, rng, fields, shapes, parameters, result, following):
        self.rng = rng
        self.fields = fields
        self.shapes = shapes
        self.result = result
        self.following = following
        self.words = {word: kind for word, kind in parameters if isinstance(kind, str)}
        self.indexes = {word: kind for word, kind in parameters if isinstance(kind, int)}
        self.functions = {word: kind for word, kind in parameters if isinstance(kind, tuple)}

    def paths(self):
        roots = [(f"self.{field}", text) for field, text in self.fields] + list(self.words.items())
        return [pair for root, text in roots for pair in paths_below(root, Shape(text), self.indexes)]

    def copied(self, part, text):
        depth = Shape(text).depth
        if depth == 0 or self.rng.random() < 0.75:
            return part
        return f"copy({part})" if self.rng.random() < 0.3 else f"copy({part}, {self.rng.randint(1, depth)})"

    def simple(self, text):
        found = [path for path, shape in self.paths() if shape == text]
        if not found or self.rng.random() < 0.15:
            return f"new {text}"
        return self.copied(self.rng.choice(found), text)

    def argument(self, kind):
        if isinstance(kind, str):
            return self.simple(kind)
        if isinstance(kind, int):
            return self.rng.choice([str(at) for at in range(kind)] + [
                word for word, many in self.indexes.items() if many <= kind] * 2)
        words = [word for word, other in self.functions.items() if other == kind]
        if not words:
            return None
        word = self.rng.choice(words)
        back = Shape(kind[1]).depth if kind[1] else 0
        if self.rng.random() < 0.5:
            return word
        return f"wrap({word}, {self.rng.randint(0, Shape(kind[0]).depth)}, {self.rng.randint(0, back)})"

    def call(self):
        """A call and the shape that it gives, or None."""
        if self.following and self.rng.random() < 0.5:
            arguments = [self.argument(kind) for kind in self.following]
            if None not in arguments:
                self.following = None
                text = self.result[1] if isinstance(self.result, tuple) else self.result
                return (f"super({', '.join(arguments)})", text)
        if not self.functions:
            return None
        word = self.rng.choice(list(self.functions))
        return (f"{word}({self.simple(self.functions[word][0])})", self.functions[word][1])

    def term(self, text):
        for _ in range(3 if self.rng.random() < 0.6 else 0):
            following = self.following
            call = self.call()
            if call and call[1] == text:
                return self.copied(*call)
            self.following = following
        return self.simple(text)

    def row(self):
        if self.rng.random() < 0.3:
            call = self.call()
            if call:
                return call[0]
        targets = [(path, text) for path, text in self.paths() if path.startswith("self.") or "[" in path]
        if self.rng.random() < 0.3 or not targets:
            word = self.rng.choice([word for word in WORDS if word not in self.indexes and word not in self.functions])
            text = self.rng.choice(self.shapes)
            row = f"{word} = {self.term(text)}"
            self.words[word] = text
            return row
        path, text = self.rng.choice(targets)
        return f"{path} = {self.term(text)}"

    def rows(self):
        rows = [self.row() for _ in range(self.rng.randint(0 if self.result else 1, 4))]
        if isinstance(self.result, tuple):
            rows.append(f"return view {self.term(self.result[1])}")
        elif self.result:
            rows.append(f"return {self.term(self.result)}")
        return rows


class TextMaker:
    """A text of some classes; the last one has them all in its order."""

    def __init__(self, seed):
        self.rng = random.Random(seed)

    def kind(self):
        chance = self.rng.random()
        if chance < 0.5:
            return self.rng.choice(self.shapes)
        if chance < 0.75:
            return self.rng.randint(1, 3)
        return (self.rng.choice(self.shapes), self.rng.choice(self.shapes + [None]))

    def parameters(self, kinds):
        return list(zip(self.rng.sample(WORDS, len(kinds)), kinds))

    def result(self):
        lists = [text for text in self.shapes if text != "."]
        chance = self.rng.random()
        if chance < 0.3:
            return None
        return ("view", self.rng.choice(lists)) if chance < 0.5 else self.rng.choice(self.shapes)

    def text(self):
        self.shapes = sorted(set(self.rng.sample(SHAPES, 3))) + ["[.]"]
        heads = self.rng.choice(HIERARCHIES)
        names = [head.partition("(")[0] for head in heads]
        order = Library("\n".join(f"class {head}:" for head in heads)).order(names[-1])
        fields = {name: [] for name in order}
        for field in FIELDS[:self.rng.randint(1, 4)]:
            text = self.rng.choice(self.shapes)
            for name in self.rng.sample(order, 2 if len(order) > 1 and self.rng.random() < 0.2 else 1):
                fields[name].append((field, text))
        every = sorted({pair for pairs in fields.values() for pair in pairs})
        methods = {name: [] for name in order}
        for method in self.rng.sample(METHODS, self.rng.randint(1, 3)):
            self.add_method(method, order, every, methods)
        lines = []
        for head, name in zip(heads, names):
            lines.append(f"class {head}:")
            lines += [f"    {field}: {text}" for field, text in fields[name]] + methods[name]
        return "\n".join(lines)

    def add_method(self, method, order, fields, methods):
        kinds = [self.kind() for _ in range(self.rng.randint(0, 3))]
        mark = self.rng.choice(("def", "def", "def", "enter", "exit"))
        result = self.result()
        owners = self.rng.sample(order, self.rng.randint(1, min(3, len(order))))
        owners = [name for name in order if name in owners]
        for name in owners:
            parameters = self.parameters(kinds)
            following = kinds if name != owners[-1] else None
            rows = DefinitionMaker(self.rng, fields, self.shapes, parameters, result, following).rows()
            shown = ", ".join(f"{word}: {shown_kind(kind)}" for word, kind in parameters)
            methods[name] += [f"    {mark} {method}({shown}):"] + [f"        {row}" for row in rows]


def shown_kind(kind):
    return f"{kind[0]} -> {kind[1] or 'none'}" if isinstance(kind, tuple) else str(kind)


def made_kept(seed):
    """The kept of the last class of a text."""
    maker = TextMaker(seed)
    while True:
        library = Library(maker.text())
        try:
            return library.kept_of(library.names[-1])
        except TooMany:
            pass


class Chooser:
    """Chooses deeds that a run can do."""

    def __init__(self, kept, seed):
        self.rng = random.Random(seed)
        self.kept = kept
        self.run = Run(kept)
        self.asked = None

    def hand_of(self, text):
        """A hand of a list of this shape, preferably a late one or one inside; None if there is none."""
        found = [at for at, (kind, shape, _) in enumerate(self.run.hands()) if (kind, shape) == ("list", text)]
        return self.rng.choice(found) if found else None

    def given(self, kind):
        """What is given for a parameter or a reply; a deed "make" if a list is needed first."""
        if isinstance(kind, int):
            return self.rng.randrange(kind)
        if not isinstance(kind, str) or kind == ".":
            return None
        hand = self.hand_of(kind)
        return ("make", kind) if hand is None or self.rng.random() < 0.3 else hand

    def put(self):
        lists = [(at, shape) for at, (kind, shape, _) in enumerate(self.run.hands()) if kind == "list"]
        if not lists:
            return None
        hand, text = self.rng.choice(lists)
        at = self.rng.randrange(len(Shape(text)))
        put = self.given(Shape(text)[at].text)
        return put if isinstance(put, tuple) else ("put", hand, at, put)

    def ask_answer(self):
        if self.rng.random() < 0.2:
            return ("raise",)
        reply = self.given(self.asked)
        return reply if isinstance(reply, tuple) else ("reply", reply)

    def call(self):
        marks = ("def", "exit") if self.run.is_open else ("def", "enter")
        methods = [method for method in self.kept.methods if self.kept.face(method)[0] in marks]
        if not methods:
            return None
        method = self.rng.choice(methods)
        arguments = [self.given(kind) for kind in self.kept.face(method)[1]]
        for argument in arguments:
            if isinstance(argument, tuple):
                return argument
        return ("call", method, tuple(arguments))

    def deed(self):
        if self.rng.random() < 0.2:
            return self.put() or ("make", "[.]")
        return (self.ask_answer() if self.run.is_busy else self.call()) or ("make", "[[.], .]")

    def step(self):
        """Does one more deed and returns it with its report."""
        deed = self.deed()
        report = self.run.do(deed)
        if deed[0] == "call":
            self.kinds = self.kept.face(deed[1])[1]
        if report[0] == "asks":
            self.asked = self.kinds[report[1]][1]
        return deed, report
