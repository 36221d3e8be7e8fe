"""Programs by chance (the same ones in each run) in which much is asked of few names, and help with values."""

from growingrecords.records import Record
from tests import oracle


class RecordMaker(oracle.Maker):
    """Makes expressions with the names a and b, of which most are records."""

    names = "ab"

    def name(self):
        return self.chance.choice(self.names)

    def expression(self, size, scope):
        if size > 0:
            kind = self.chance.choice(["call", "literal", "let", "if", "join", "join", "join", "step", "step", "step"])
            return getattr(self, "make_" + kind)(size - 1, scope)
        chance = self.chance.random()
        if scope and chance < 0.8:
            return self.variable(scope)
        if chance < 0.85:
            return ("number", self.chance.choice([0, 3]))
        return ("literal", [(name, ("number", 1)) for name in self.names if self.chance.random() < 0.4])

    def make_literal(self, size, scope):
        names = list(self.names)[:self.chance.randrange(3)]
        self.chance.shuffle(names)
        return ("literal", [(name, self.expression(size // len(names), scope)) for name in names])

    def make_join(self, size, scope):
        return ("join", self.chance.choice("|++-&"), self.expression(size // 2, scope), self.expression(size // 2, scope))


def definitions(chance, size=15, counts=(0, 1, 1, 2, 2, 2, 3), names=None):
    """A text with functions of these names, or with one or two functions, in its written form."""
    lines = []
    known = []
    for name in names or "fg"[:chance.choice([1, 1, 2])]:
        parameters = list("pqr")[:chance.choice(counts)]
        maker = RecordMaker(chance, known)
        body = maker.expression(chance.randrange(2, size + 1), parameters)
        lines.append(f"def {name}({', '.join(parameters)}) = {oracle.form(body)}")
        known.append((name, len(parameters)))
    return "\n".join(lines)


def altered(chance, expression):
    """The expression with a change somewhere in it; often it still has the same values."""
    places = inner_places(expression)
    if places and chance.random() < 0.75:
        get, put = chance.choice(places)
        return put(altered(chance, get))
    kind = expression[0]
    ways = [("join", "|", expression, ("literal", [])), ("join", "|", ("literal", []), expression),
            ("let", "v", expression, ("variable", "v"))]
    if kind == "join":
        sign = chance.choice("|+-&")
        ways += [("join", expression[1], expression[3], expression[2]), ("join", sign, *expression[2:]), expression[2]] * 3
    elif kind == "step":
        word, *rest = expression[2]
        other = {"put": "add", "add": "put", "cut": "drop", "drop": "cut"}.get(word, word)
        ways += [("step", expression[1], (other, *rest)), ("step", expression[1], ("drop", "b")), expression[1]] * 3
    elif kind == "if":
        turned = [(not expression[1][0][0], *expression[1][0][1:])]
        ways += [("if", turned, expression[3], expression[2]), ("if", expression[1], *expression[:1:-1]), expression[2]] * 2
    elif kind == "literal":
        ways += [("literal", expression[1][::-1])]
    elif kind == "number":
        ways += [("number", expression[1] + 1), ("literal", [])]
    elif kind == "variable":
        ways += [("step", expression, ("drop", "a")), ("step", expression, ("put", "a", ("number", 1)))]
    return chance.choice(ways)


def inner_places(expression):
    """For each expression directly within this one: itself, and a function that puts another one in its place."""
    kind = expression[0]

    def at(index):
        return expression[index], lambda new: (*expression[:index], new, *expression[index + 1:])

    if kind in ("let", "join"):
        return [at(2), at(3)]
    if kind == "if":
        return [at(2), at(3)]
    if kind == "step":
        return [at(1)]
    if kind == "literal":
        fields = expression[1]
        return [(part, lambda new, index=index, name=name: ("literal", [*fields[:index], (name, new), *fields[index + 1:]]))
                for index, (name, part) in enumerate(fields)]
    if kind == "call":
        parts = expression[2]
        return [(part, lambda new, index=index: ("call", expression[1], [*parts[:index], new, *parts[index + 1:]]))
                for index, part in enumerate(parts)]
    return []


def two_bodies(chance, size, parameters):
    """A text with the functions f and g, of which the second one is much like the first one."""
    body = RecordMaker(chance, []).expression(chance.randrange(1, size + 1), parameters)
    other = body
    for _ in range(chance.choice([1, 1, 2])):
        other = altered(chance, other)
    head = ", ".join(parameters)
    return f"def f({head}) = {oracle.form(body)}\ndef g({head}) = {oracle.form(other)}"


def joins(chance, depth, parameters):
    """A text in which records are joined, without `+`."""
    if depth <= 0:
        return chance.choice([*parameters, *parameters, *[name + ".a" for name in parameters], "{a: 1}", "{a: 2}", "{}", "{b: {}}"])
    if chance.random() < 0.15:
        change = chance.choice(["only a", "put a = 1", "drop a", "only", "drop b", "put b = p", "rename a to b", "put a = p | {}"])
        return f"({joins(chance, depth - 1, parameters)})[{change}]"
    return f"({joins(chance, depth - 1, parameters)} {chance.choice('|--&&')} {joins(chance, depth - 1, parameters)})"


def two_rows_of_joins(chance, parameters):
    """A text with the functions f and g, in which much must not be because of `+`."""
    rows = [f"let x = {joins(chance, chance.randrange(2), parameters)} + {joins(chance, chance.randrange(2), parameters)} in "
            for _ in range(chance.randrange(4))]
    head = ", ".join(parameters)
    bodies = ["".join(rows) + joins(chance, chance.randrange(3), parameters) for _ in range(2)]
    return f"def f({head}) = {bodies[0]}\ndef g({head}) = {bodies[1]}"


def record(plain):
    """The value, or the tuple of values, for plain integers and dicts."""
    if isinstance(plain, tuple):
        return tuple(map(record, plain))
    return Record.make(plain) if isinstance(plain, dict) else plain


def plain(value):
    """The plain value, or tuple of plain values."""
    if isinstance(value, tuple):
        return tuple(map(plain, value))
    return value.plain() if isinstance(value, Record) else value
