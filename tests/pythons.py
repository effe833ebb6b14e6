"""Another way to do a history: the classes of a text as classes of Python, with Python's own lists.

It shares nothing with the package but the faces and fields of a kept, so that both can be compared.
"""

import re

HELPERS = "_tools"


class Raised(Exception):
    """A function of the caller's raises."""


class Stop(Exception):
    """The history ends while a call waits."""


def copied(value, floors):
    if not isinstance(value, list) or floors == 0:
        return value
    return [copied(item, floors - 1) for item in value]


def filled(text, plain):
    """A value of a shape; plain gives each plain value."""
    counted = re.sub(r"\.", lambda _: str(plain()), text)
    return eval(counted)


def shape_of(value):
    return "[" + ", ".join(shape_of(item) for item in value) + "]" if isinstance(value, list) else "."


def split(text):
    parts, nested, part = [], 0, ""
    for sign in text:
        nested += (sign in "([") - (sign in ")]")
        if sign == "," and nested == 0:
            parts.append(part.strip())
            part = ""
        else:
            part += sign
    return parts + [part.strip()] if part.strip() else parts


def term(text, method):
    """A term of a row as an expression of Python."""
    if text.startswith("new "):
        return f"_tools.new('{text[4:]}')"
    if text.startswith("copy("):
        inner, *floors = split(text[5:-1])
        return f"_tools.copy({term(inner, method)}, {floors[0] if floors else 9})"
    if text.startswith("super("):
        return f"super().{method}({', '.join(term(part, method) for part in split(text[6:-1]))})"
    if text.startswith("wrap("):
        return f"_tools.wrap({text[5:-1]})"
    if "(" in text:
        word, _, rest = text.partition("(")
        return f"{word}({term(rest[:-1], method)})"
    return text


def python_row(row, method):
    if row.startswith("return "):
        return ["return " + term(row.removeprefix("return ").removeprefix("view "), method)]
    left, sign, right = row.partition(" = ")
    if not sign:
        return [term(row, method)]
    box, bracket, index = left.rpartition("[")
    if not bracket:
        return [f"{left} = {term(right, method)}"]
    return [f"_value = {term(right, method)}", f"_tools.put({box}, {index[:-1]}, _value)"]


def python_text(text):
    """The classes of a text in Python."""
    lines = []
    method = None
    for line in text.split("\n"):
        if line.startswith("class "):
            lines += [line, "    pass"]
        elif line.startswith("        "):
            lines += ["        " + part for part in python_row(line.strip(), method)]
        elif re.match(r"    (def|enter|exit) ", line):
            method, _, rest = line.strip().split(" ", 1)[1].partition("(")
            words = [part.partition(":")[0] for part in split(rest[:-2])]
            lines += [f"    def {method}({', '.join(['self'] + words)}):", "        pass"]
    return "\n".join(lines)


class Tools:
    """What the rows in Python call."""

    def __init__(self, history):
        self.history = history

    def new(self, text):
        return filled(text, lambda: 0)

    def copy(self, value, floors):
        return copied(value, floors)

    def wrap(self, function, out_floors, back_floors):
        return lambda value: copied(function(copied(value, out_floors)), back_floors)

    def put(self, box, index, value):
        self.history.outside |= self.history.is_held(box)
        box[index] = value
        self.history.watch()


class History:
    """Does deeds one after another and keeps what can be told behind each."""

    def __init__(self, kept, deeds):
        self.kept = kept
        self.deeds = list(deeds)
        self.grips = []
        self.numbers = {}
        self.viewed = []
        self.last_value = 0
        self.outside = self.is_open = False
        self.begun = 0
        self.asks = 0
        self.labels = []
        self.told = []
        space = {HELPERS: Tools(self)}
        exec(python_text(kept.library.text), space)
        self.object = space[kept.name]()
        for name, text in kept.fields:
            setattr(self.object, name, filled(text, lambda: 0))

    # What the caller holds.

    def is_held(self, box):
        return id(box) in self.numbers

    def is_viewed(self, box):
        return any(box is other for other in self.viewed)

    def hold(self, value):
        if isinstance(value, list) and not self.is_held(value):
            self.numbers[id(value)] = len(self.grips)
            self.grips.append(("list", value))
            for item in value:
                self.hold(item)

    def watch(self):
        for _, box in list(self.grips):
            for item in box:
                self.hold(item)

    def shown(self, value):
        return self.numbers[id(value)] if isinstance(value, list) else value

    def new_value(self):
        self.last_value += 1
        return self.last_value

    # Deeds.

    def play(self):
        try:
            while self.deeds:
                self.outside = False
                self.top_deed(self.deeds.pop(0))
        except Stop:
            pass
        return self.told

    def top_deed(self, deed):
        if deed[0] != "call":
            return self.tell(self.quiet_deed(deed), False)
        _, method, arguments = deed
        mark, kinds, result = self.kept.face(method)
        self.begun += 1
        self.asks = 0
        passed = [self.passed(at, kind, part) for at, (kind, part) in enumerate(zip(kinds, arguments))]
        ending = -1
        try:
            value = getattr(self.object, method)(*passed)
        except Raised:
            ending = self.asks - 1
        self.is_open = {"def": self.is_open, "exit": False, "enter": ending == -1}[mark]
        self.labels.append((method, tuple(p for k, p in zip(kinds, arguments) if isinstance(k, int)), ending))
        if ending != -1:
            self.tell(("raised",), False)
        else:
            self.tell(("returns", self.returned(value, isinstance(result, tuple))), False)

    def returned(self, value, is_view):
        if is_view:
            self.grips.append(("view", value))
            self.viewed.append(value)
            hand = len(self.grips) - 1
            self.watch()
            return hand
        self.hold(value)
        return self.shown(value)

    def passed(self, at, kind, argument):
        if isinstance(kind, tuple):
            return lambda value: self.ask(at, kind[1], value)
        if kind == ".":
            return self.new_value()
        return argument if isinstance(kind, int) else self.grips[argument][1]

    def ask(self, at, reply, value):
        self.asks += 1
        self.hold(value)
        self.tell(("asks", at, self.shown(value)), True)
        while self.deeds:
            self.outside = False
            deed = self.deeds.pop(0)
            if deed[0] == "raise":
                raise Raised()
            if deed[0] == "reply":
                return self.new_value() if reply == "." else None if reply is None else self.grips[deed[1]][1]
            self.tell(self.quiet_deed(deed), True)
        raise Stop()

    def quiet_deed(self, deed):
        if deed[0] == "make":
            value = filled(deed[1], self.new_value)
            self.hold(value)
            return ("made", self.shown(value))
        assert deed[0] == "put"
        self.grips[deed[1]][1][deed[2]] = self.new_value() if deed[3] is None else self.grips[deed[3]][1]
        return ("put",)

    # What can be told.

    def tell(self, report, is_busy):
        hands = tuple((kind, shape_of(box), tuple(self.shown(item) for item in box)) for kind, box in self.grips)
        places = {place: self.list_at(place) for place in self.kept.places()}
        self.told.append({
            "report": report,
            "hands": hands,
            "insides": {name: copied(getattr(self.object, name), 9) for name, _ in self.kept.fields},
            "busy": is_busy, "open": self.is_open, "calls": self.begun, "outside": self.outside,
            "labels": list(self.labels),
            "hand_at": {place: self.numbers.get(id(box)) for place, box in places.items()},
            "seen": {place: self.is_held(box) or self.is_viewed(box) for place, box in places.items()},
            "same": [(one, other) for one in places for other in places if places[one] is places[other]],
            "world": None if is_busy else self.world(),
        })

    def list_at(self, place):
        return eval("_object." + place, {"_object": self.object})

    def world(self):
        codes, met = [], []
        for name, _ in self.kept.fields:
            self.code(getattr(self.object, name), codes, met)
        return (self.is_open, tuple(codes))

    def code(self, value, codes, met):
        if not isinstance(value, list):
            return
        before = [at for at, other in enumerate(met) if other is value]
        if self.is_held(value):
            codes.append(-3)
        elif before:
            codes.append(before[0])
        else:
            met.append(value)
            codes.append(-2 if self.is_viewed(value) else -1)
            for item in value:
                self.code(item, codes, met)
