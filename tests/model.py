"""Runs, ways and cases by other means than the package's.

`parse` reads a text by recursive descent. `Runner` runs a function with given arguments, which are
plain: integers and dicts. Its values are computed as they are, not as terms; each keeps where it came
from. It asks every question of point 19, also where the answer follows. `grouped` finds the cases among
many worlds of arguments just as points 19 and 20 define them, and `worlds` makes all worlds of arguments
that a function can tell apart.
"""

import re
from itertools import product
from math import prod


def parse(text):
    """The functions: a dict of names to (parameters, body). An expression is a tuple (word, at, ..)."""
    return Parser(text).program()


class Parser:

    def __init__(self, text):
        self.tokens = [(match.group(), match.start()) for match in re.finditer(r"[a-z]+|[0-9]+|[^ \n]", text)]
        self.tokens.append(("", len(text)))

    def ahead(self):
        return self.tokens[0][0]

    def take(self, *expected):
        word, at = self.tokens.pop(0)
        assert not expected or word in expected, (word, at)
        return word, at

    def row(self, end, item):
        found = []
        while self.ahead() != end:
            if found:
                self.take(",")
            found.append(item())
        self.take(end)
        return found

    def program(self):
        functions = {}
        while self.ahead():
            self.take("def")
            name = self.take()[0]
            self.take("(")
            parameters = self.row(")", lambda: self.take()[0])
            self.take("=")
            functions[name] = (parameters, self.expr())
        return functions

    def expr(self):
        word, at = self.tokens[0]
        if word == "let":
            self.take()
            name = self.take()[0]
            self.take("=")
            defined = self.expr()
            self.take("in")
            return ("let", at, name, defined, self.expr())
        if word == "if":
            self.take()
            tests = [self.test()]
            while self.ahead() == "and":
                self.take()
                tests.append(self.test())
            self.take("then")
            met = self.expr()
            self.take("else")
            return ("if", at, tests, met, self.expr())
        return self.chain()

    def test(self):
        turned = False
        while self.ahead() == "not":
            self.take()
            turned = not turned
        chain = self.chain()
        word, at = self.take("has", "is")
        return (turned, chain, at, self.take()[0] if word == "has" else self.take("record") and None)

    def chain(self):
        left = self.part()
        while self.ahead() and self.ahead() in "|+-&":
            sign, at = self.take()
            left = ("join", at, sign, left, self.part())
        return left

    def part(self):
        part = self.base()
        while self.ahead() in (".", "["):
            word, at = self.take()
            if word == ".":
                part = ("step", at, ".", part, [self.take()[0]], None)
            else:
                for change in self.row("]", self.change):
                    part = (*change[:3], part, *change[3:])
        return part

    def change(self):
        word, at = self.take("put", "add", "cut", "drop", "rename", "only")
        if word == "only":
            names = []
            while self.ahead() not in (",", "]"):
                names.append(self.take()[0])
            return ("step", at, word, names, None)
        names = [self.take()[0]]
        part = None
        if word == "rename":
            self.take("to")
            names.append(self.take()[0])
        elif word in ("put", "add"):
            self.take("=")
            part = self.expr()
        return ("step", at, word, names, part)

    def base(self):
        word, at = self.take()
        if word == "(":
            inner = self.expr()
            self.take(")")
            return inner
        if word == "{":
            return ("literal", at, self.row("}", self.field))
        if word.isdigit():
            return ("number", at, int(word))
        if self.ahead() == "(":
            self.take()
            return ("call", at, word, self.row(")", self.expr))
        return ("variable", at, word)

    def field(self):
        name = self.take()[0]
        self.take(":")
        return name, self.expr()


def names_in(functions):
    """The names of fields that a program mentions, in ascending order."""
    names = set()

    def walk(part):
        if isinstance(part, tuple) and part and part[0] == "literal":
            names.update(name for name, _ in part[2])
        elif isinstance(part, tuple) and part and part[0] == "step":
            names.update(part[4])
        elif isinstance(part, tuple) and len(part) == 4 and isinstance(part[0], bool) and part[3] is not None:
            names.add(part[3])
        if isinstance(part, (tuple, list)):
            for inner in part:
                walk(inner)

    for _, body in functions.values():
        walk(body)
    return sorted(names)


class Value:
    """A value: an int, or a dict of values; and its origin, a tuple."""

    def __init__(self, told, *origin):
        self.told = told
        self.origin = origin

    def is_record(self):
        return isinstance(self.told, dict)

    def plain(self):
        return {name: value.plain() for name, value in self.told.items()} if self.is_record() else self.told


def found_at(path, plain):
    """The value for what was found in the arguments."""
    if isinstance(plain, dict):
        plain = {name: found_at((*path, name), value) for name, value in plain.items()}
    return Value(plain, "argument", path)


class Stop(Exception):
    """The end of a run that fails: what the failure tells, and the way."""


class Runner:

    def __init__(self, functions, mentioned=None):
        self.functions = functions
        self.mentioned = names_in(functions) if mentioned is None else mentioned

    def run(self, name, arguments):
        """The outcome of a run, with a plain value. Afterwards `way`, `asked` and `branches` tell more."""
        self.asked = []
        self.branches = []
        self.way = None
        parameters, body = self.functions[name]
        values = [found_at((index,), plain) for index, plain in enumerate(arguments)]
        try:
            return ("value", self.eval(body, dict(zip(parameters, values)), ()).plain())
        except Stop as stop:
            failure, self.way = stop.args
            return ("failure", *failure)

    def eval(self, expression, scope, calls):
        return getattr(self, "eval_" + expression[0])(expression, scope, calls)

    def eval_number(self, expression, scope, calls):
        return Value(expression[2], "number", expression[1])

    def eval_variable(self, expression, scope, calls):
        return scope[expression[2]]

    def eval_literal(self, expression, scope, calls):
        return Value({name: self.eval(part, scope, calls) for name, part in expression[2]}, "literal", expression[1])

    def eval_call(self, expression, scope, calls):
        values = [self.eval(part, scope, calls) for part in expression[3]]
        parameters, body = self.functions[expression[2]]
        return self.eval(body, dict(zip(parameters, values)), calls + (expression[1],))

    def eval_let(self, expression, scope, calls):
        defined = self.eval(expression[3], scope, calls)
        return self.eval(expression[4], {**scope, expression[2]: defined}, calls)

    def eval_if(self, expression, scope, calls):
        holds = all(self.test(test, scope, calls) for test in expression[2])
        self.branches.append((expression[1], holds))
        return self.eval(expression[3] if holds else expression[4], scope, calls)

    def test(self, test, scope, calls):
        turned, chain, at, name = test
        value = self.eval(chain, scope, calls)
        if name is None:
            return self.ask_record(value) != turned
        self.need_record(value, at, calls)
        return self.ask_has(value, name) != turned

    def eval_join(self, expression, scope, calls):
        _, at, sign, left, right = expression
        left = self.eval(left, scope, calls)
        right = self.eval(right, scope, calls)
        self.need_record(left, at, calls)
        self.need_record(right, at, calls)
        if sign == "+":
            self.need_apart(left, right, at, calls)
        if sign in "|+":
            told = {**left.told, **right.told}
        else:
            told = {name: value for name, value in left.told.items() if (name in right.told) == (sign == "&")}
        return Value(told, "join", at, sign, left, right)

    def need_apart(self, left, right, at, calls):
        both = sorted(set(left.told) & set(right.told))
        paths = list(dict.fromkeys(sources(left) + sources(right)))
        for name in [*self.mentioned, None]:
            ways = [way for way in product((False, True), repeat=len(paths))
                    if would_have(left, name, dict(zip(paths, way))) and would_have(right, name, dict(zip(paths, way)))]
            there = [one for one in both if one == name or (name is None and one not in self.mentioned)]
            self.asked.append((("lies", name, tuple(paths), tuple(ways)), bool(there)))
            if there:
                way = ("both", there[0], self.have(left, there[0]), self.have(right, there[0]))
                raise Stop(("shared", at, calls, name), way)

    def eval_step(self, expression, scope, calls):
        _, at, word, before, names, part = expression
        before = self.eval(before, scope, calls)
        self.need_record(before, at, calls)
        told = dict(before.told)
        if word in (".", "cut", "rename") and not self.ask_has(before, names[0]):
            raise Stop(("lacks", at, calls, names[0]), self.lack(before, names[0]))
        if word == ".":
            return told[names[0]]
        if word == "add" and self.ask_has(before, names[0]):
            raise Stop(("there", at, calls, names[0]), self.have(before, names[0]))
        if word in ("put", "add"):
            told[names[0]] = self.eval(part, scope, calls)
        elif word == "rename":
            moved = told.pop(names[0])
            if names[1] != names[0] and self.ask_has(before, names[1]):
                raise Stop(("there", at, calls, names[1]), self.have(before, names[1]))
            told[names[1]] = moved
        else:
            told = {name: value for name, value in told.items() if (name in names) == (word == "only")}
        return Value(told, "step", at, word, before, names)

    def need_record(self, value, at, calls):
        if not self.ask_record(value):
            raise Stop(("record", at, calls, None), value.origin)

    def ask_record(self, value):
        if value.origin[0] == "argument":
            self.asked.append((("record", value.origin[1]), value.is_record()))
        return value.is_record()

    def ask_has(self, value, name):
        """Asks what must be known, by the rules of point 19."""
        kind = value.origin[0]
        if kind == "argument":
            self.asked.append((("has", value.origin[1], name), name in value.told))
        elif kind == "step":
            _, _, word, before, names = value.origin
            if word == "only":
                silent = name not in names
            else:
                silent = name in names
            if not silent:
                self.ask_has(before, name)
        elif kind == "join":
            _, _, sign, left, right = value.origin
            first, second = (right, left) if sign in "|+" else (left, right)
            if self.ask_has(first, name) == (sign in "-&"):
                self.ask_has(second, name)
        return name in value.told

    def lack(self, value, name):
        """The way by which a record lacks a name."""
        assert name not in value.told
        kind, *more = value.origin
        if kind in ("argument", "literal"):
            return (kind, more[0])
        if kind == "step":
            at, word, before, names = more
            if word in ("put", "add"):
                return ("past", at, self.lack(before, name))
            dropped = name in names[:1] if word != "only" else name not in names
            return ("dropped", at) if dropped else ("past", at, self.lack(before, name))
        at, sign, left, right = more
        if sign in "|+":
            return ("neither", at, self.lack(left, name), self.lack(right, name))
        if name not in left.told:
            return ("past", at, self.lack(left, name))
        return ("removed", at, self.have(right, name) if sign == "-" else self.lack(right, name))

    def have(self, value, name):
        """The way by which a record has a name."""
        assert name in value.told
        kind, *more = value.origin
        if kind in ("argument", "literal"):
            return (kind, more[0])
        if kind == "step":
            at, word, before, names = more
            put = word in ("put", "add", "rename") and names[-1] == name
            return ("put", at) if put else ("past", at, self.have(before, name))
        at, sign, left, right = more
        if sign in "|+":
            return ("right", at, self.have(right, name)) if name in right.told else ("left", at, self.have(left, name))
        return ("stays", at, self.have(left, name), self.lack(right, name) if sign == "-" else self.have(right, name))


def sources(value):
    kind, *more = value.origin
    if kind == "argument":
        return [more[0]]
    if kind == "literal":
        return []
    return sources(more[2]) if kind == "step" else sources(more[2]) + sources(more[3])


def would_have(value, name, way):
    """True if the record would have a name that lies in a way."""
    kind, *more = value.origin
    if kind == "argument":
        return way[more[0]]
    if kind == "literal":
        return name in value.told
    if kind == "join":
        left = would_have(more[2], name, way)
        right = would_have(more[3], name, way)
        return {"|": left or right, "+": left or right, "-": left and not right, "&": left and right}[more[1]]
    _, word, before, names = more
    before = would_have(before, name, way)
    if word in ("put", "add"):
        return before or name == names[0]
    if word == "only":
        return before and name in names
    return (before and name != names[0]) or (word == "rename" and name == names[1])


def size(value):
    """The number of fields on all levels; of a tuple, of all arguments together."""
    if isinstance(value, tuple):
        return sum(map(size, value))
    return len(value) + sum(map(size, value.values())) if isinstance(value, dict) else 0


def others(mentioned, count):
    """Names that are not mentioned."""
    names = ["u", "v", "w", "x", "y", "z", "uu", "vv", "ww"]
    return [name for name in names if name not in mentioned][:count]


class TooMany(Exception):
    """There are too many worlds to go through all of them."""


def worlds(asking, most, strange=1, every=False):
    """All worlds of arguments that some functions, with equal numbers of parameters, can tell apart.

    `asking` are pairs of a runner and the name of a function. Which values must vary is found out by
    running the functions: as long as runs ask about more values and names, these are varied, too. If `every`
    is true, all mentioned names and some others vary in each record that is asked about.
    """
    count = len(asking[0][0].functions[asking[0][1]][0])
    asked = {}
    while True:
        found = world_list(count, asked, most)
        before = {path: set(names) for path, names in asked.items()}
        for runner, name in asking:
            for world in found:
                runner.run(name, world)
                note_questions(runner, asked, strange, every)
        if asked == before:
            return found


def note_questions(runner, asked, strange, every):
    for question, _ in runner.asked:
        if question[0] == "record":
            names = [*runner.mentioned, *others(runner.mentioned, strange)] if every else []
            asked.setdefault(question[1], set()).update(names)
        elif question[0] == "has":
            asked[question[1]].add(question[2])
        else:
            names = others(runner.mentioned, strange) if question[1] is None else [question[1]]
            for path in question[2]:
                asked[path].update(names if question[3] else [])


def world_list(count, asked, most):
    def values(path):
        if path not in asked:
            return [0]
        names = sorted(asked[path])
        rows = combined([[None, *values((*path, name))] for name in names])
        return [7, *({name: part for name, part in zip(names, row) if part is not None} for row in rows)]

    def combined(choices):
        if prod(map(len, choices)) > most:
            raise TooMany
        return list(product(*choices))

    return combined([values((index,)) for index in range(count)])


def distinct(plain, taken=None):
    """The same with integers of which no two are equal and none stands in a program."""
    taken = [] if taken is None else taken
    if isinstance(plain, tuple):
        return tuple(distinct(value, taken) for value in plain)
    if isinstance(plain, dict):
        return {name: distinct(value, taken) for name, value in plain.items()}
    taken.append(plain)
    return -len(taken)


class Group:
    """A case that was found among worlds: its facts, its worlds with their outcomes, and its branches."""

    def __init__(self, facts, members, branches):
        self.facts = facts
        self.members = members
        self.branches = branches


def grouped(runner, name, found):
    """The cases of a function, as far as the worlds show them, in their order."""
    rows = []
    for world in found:
        outcome = runner.run(name, world)
        rows.append((world, outcome, list(runner.asked), frozenset(runner.branches)))
    groups = []

    def divide(part, depth, facts):
        ended = [len(row[2]) == depth for row in part]
        if any(ended):
            assert all(ended), "runs with the same answers ask the same questions"
            branches = {row[3] for row in part}
            assert len(branches) == 1
            groups.append(Group(tuple(facts), [row[:2] for row in part], branches.pop()))
            return
        question = part[0][2][depth][0]
        assert all(row[2][depth][0] == question for row in part)
        sides = {answer: [row for row in part if row[2][depth][1] is answer] for answer in (False, True)}
        for answer, side in sides.items():
            if side:
                divide(side, depth + 1, facts + [(question, answer)] if len(side) < len(part) else facts)

    divide(rows, 0, [])
    return groups
