"""Programs by chance (the same ones in each run) in which much is asked of few names, and help with values."""

from growingrecords.records import Record
from tests import oracle


class RecordMaker(oracle.Maker):
    """Makes expressions with the names a and b, of which most are records."""

    names = "ab"

    def name(self):
        return self.chance.choice(self.names)

    def expression(self, size, scope):
        if size > 0:
            kind = self.chance.choice(["call", "literal", "let", "if", "join", "join", "join", "step", "step", "step"])
            return getattr(self, "make_" + kind)(size - 1, scope)
        chance = self.chance.random()
        if scope and chance < 0.8:
            return self.variable(scope)
        if chance < 0.85:
            return ("number", self.chance.choice([0, 3]))
        return ("literal", [(name, ("number", 1)) for name in self.names if self.chance.random() < 0.4])

    def make_literal(self, size, scope):
        names = list(self.names)[:self.chance.randrange(3)]
        self.chance.shuffle(names)
        return ("literal", [(name, self.expression(size // len(names), scope)) for name in names])

    def make_join(self, size, scope):
        return ("join", self.chance.choice("|++-&"), self.expression(size // 2, scope), self.expression(size // 2, scope))


def definitions(chance, size=15, counts=(0, 1, 1, 2, 2, 2, 3), names=None):
    """A text with functions of these names, or with one or two functions, in its written form."""
    lines = []
    known = []
    for name in names or "fg"[:chance.choice([1, 1, 2])]:
        parameters = list("pqr")[:chance.choice(counts)]
        maker = RecordMaker(chance, known)
        body = maker.expression(chance.randrange(2, size + 1), parameters)
        lines.append(f"def {name}({', '.join(parameters)}) = {oracle.form(body)}")
        known.append((name, len(parameters)))
    return "\n".join(lines)


def record(plain):
    """The value, or the tuple of values, for plain integers and dicts."""
    if isinstance(plain, tuple):
        return tuple(map(record, plain))
    return Record.make(plain) if isinstance(plain, dict) else plain


def plain(value):
    """The plain value, or tuple of plain values."""
    if isinstance(value, tuple):
        return tuple(map(plain, value))
    return value.plain() if isinstance(value, Record) else value
