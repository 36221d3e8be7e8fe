"""What the tests compare the program with: made independently of it, and by other means.

- `first_wrong` finds the first wrong token of a text by Earley's method over the rules of point 7.
- `Maker` makes expressions by chance (the same ones in each run), `Writer` writes them with needless
  brackets and blanks and notes the wrong names, `form` writes them as point 11 says, `weight` weighs
  them by replacing every variable and every call.

Expressions are tuples: ("number", n), ("variable", name), ("call", name, [e..]),
("literal", [(name, e)..]), ("let", name, e, e), ("if", [(turned, e, name or None)..], e, e),
("join", sign, e, e), ("step", e, change); changes are (".", name), ("put", name, e), ("add", name, e),
("cut", name), ("drop", name), ("rename", name, name), ("only", [name..]).
"""

import re

RESERVED = "add and cut def drop else has if in is let not only put record rename then to".split()

RULES = """
program = definition | program definition
definition = def NAME ( names ) = expr | def NAME ( ) = expr
names = NAME | names , NAME
expr = let NAME = expr in expr | if tests then expr else expr | chain
tests = test | tests and test
test = not test | chain has NAME | chain is record
chain = part | chain SIGN part
part = base | part . NAME | part [ changes ]
changes = change | changes , change
change = put NAME = expr | add NAME = expr | cut NAME | drop NAME | rename NAME to NAME | only | only row
row = NAME | row NAME
base = NUMBER | NAME | NAME ( ) | NAME ( list ) | { } | { fields } | ( expr )
list = expr | list , expr
fields = NAME : expr | fields , NAME : expr
"""


def grammar():
    rules = {}
    for line in RULES.strip().splitlines():
        name, right = line.split(" = ", 1)
        rules[name] = [tuple(choice.split()) for choice in right.split(" | ")]
    return rules


GRAMMAR = grammar()


def tokens(text):
    """The pairs of the kind and the position of each token."""
    found = []
    for match in re.finditer(r"[a-z]+|[0-9]+|[^ \n]", text):
        word = match.group()
        if re.fullmatch(r"0|[1-9][0-9]{0,29}", word):
            kind = "NUMBER"
        elif word in RESERVED or word in list("(){}[],:=."):
            kind = word
        elif re.fullmatch(r"[a-z]{1,8}", word):
            kind = "NAME"
        else:
            kind = "SIGN" if word in list("|+-&") else "wrong"
        found.append((kind, match.start()))
    return found


def closure(columns):
    """Completes the last column of Earley's items (rule name, right side, dot, first column)."""
    column = columns[-1]
    for name, right, dot, begin in column:
        if dot == len(right):
            new = [(n, r, d + 1, b) for n, r, d, b in columns[begin] if d < len(r) and r[d] == name]
        else:
            new = [(right[dot], choice, 0, len(columns) - 1) for choice in GRAMMAR.get(right[dot], [])]
        column.extend(item for item in dict.fromkeys(new) if item not in column)


def first_wrong(text):
    """The position that BadText tells, None if the text is written as point 7 says."""
    columns = [[("program", choice, 0, 0) for choice in GRAMMAR["program"]]]
    closure(columns)
    for kind, at in tokens(text):
        moved = [(n, r, d + 1, b) for n, r, d, b in columns[-1] if d < len(r) and r[d] == kind]
        if not moved:
            return at
        columns.append(moved)
        closure(columns)
    done = any(n == "program" and d == len(r) and b == 0 for n, r, d, b in columns[-1])
    return None if done else len(text)


class Maker:
    """Makes expressions of about a size; `known` are the functions that may be called: (name, count)."""

    def __init__(self, chance, known, wrong=0.0):
        self.chance = chance
        self.known = known
        self.wrong = wrong

    def name(self):
        return self.chance.choice(["a", "b", "c", "dd", "eeeeeeee"])

    def variable(self, scope):
        names = list(scope)
        if not names or self.chance.random() < self.wrong:
            names = ["p", "q", "x", "zz"]
        return ("variable", self.chance.choice(names)) if names != [] else ("number", 7)

    def expression(self, size, scope):
        if size <= 0:
            leaf = self.chance.choice(["number", "variable", "variable", "literal"])
            if leaf == "number" or (leaf == "variable" and not scope and not self.wrong):
                return ("number", self.chance.choice([0, 1, 42, 10 ** 30 - 1]))
            return ("literal", []) if leaf == "literal" else self.variable(scope)
        kind = self.chance.choice(["call", "literal", "let", "if", "join", "join", "step", "step", "step"])
        return getattr(self, "make_" + kind)(size - 1, scope)

    def make_call(self, size, scope):
        known = list(self.known)
        if self.chance.random() < self.wrong:
            known.append((self.chance.choice(["f", "g", "h", "p"]), self.chance.randrange(3)))
        if not known:
            return self.make_step(size, scope)
        name, count = self.chance.choice(known)
        if self.chance.random() < 4 * self.wrong:
            count += self.chance.choice([1, 2]) if count == 0 else self.chance.choice([-1, 1])
        return ("call", name, [self.expression(size // max(1, count), scope) for _ in range(count)])

    def make_literal(self, size, scope):
        names = ["a", "b", "c", "dd"][:self.chance.randrange(4)]
        self.chance.shuffle(names)
        if names and self.chance.random() < self.wrong:
            names.append(names[0])
        return ("literal", [(name, self.expression(size // len(names), scope)) for name in names])

    def make_let(self, size, scope):
        name = self.chance.choice(["p", "x", "y"])
        return ("let", name, self.expression(size // 2, scope), self.expression(size // 2, [*scope, name]))

    def make_if(self, size, scope):
        tests = [(self.chance.random() < 0.4, self.expression(size // 3, scope), self.chance.choice([None, self.name()]))
                 for _ in range(self.chance.choice([1, 1, 2, 3]))]
        return ("if", tests, self.expression(size // 3, scope), self.expression(size // 3, scope))

    def make_join(self, size, scope):
        return ("join", self.chance.choice("|+-&"), self.expression(size // 2, scope), self.expression(size // 2, scope))

    def make_step(self, size, scope):
        word = self.chance.choice([".", "put", "add", "cut", "drop", "rename", "only"])
        change = (word, self.name())
        if word in ("put", "add"):
            change = (word, self.name(), self.expression(size // 3, scope))
        elif word == "rename":
            change = (word, self.name(), self.name())
        elif word == "only":
            change = (word, [self.name() for _ in range(self.chance.randrange(4))])
        return ("step", self.expression(size - 1, scope), change)


class Writer:
    """Writes definitions as a row of tokens, with needless brackets, and notes the wrong names."""

    def __init__(self, chance):
        self.chance = chance
        self.words = []
        self.faults = []
        self.counts = {}

    def put(self, *words):
        self.words.extend(words)

    def fault(self, kind, name):
        """The name that comes next is wrong."""
        self.faults.append((len(self.words), kind, name))

    def definition(self, name, parameters, body):
        self.put("def")
        if name in self.counts:
            self.fault("DoubleName", name)
        self.put(name, "(")
        for place, parameter in enumerate(parameters):
            if place > 0:
                self.put(",")
            if parameter in parameters[:place]:
                self.fault("DoubleName", parameter)
            self.put(parameter)
        self.put(")", "=")
        self.expr(body, list(parameters))
        self.counts[name] = len(parameters)

    def bracketed(self, expression, scope):
        self.put("(")
        self.expr(expression, scope)
        self.put(")")

    def needless(self):
        return self.chance.random() < 0.15

    def expr(self, expression, scope):
        kind = expression[0]
        if self.needless():
            self.bracketed(expression, scope)
        elif kind == "let":
            self.put("let", expression[1], "=")
            self.expr(expression[2], scope)
            self.put("in")
            self.expr(expression[3], [*scope, expression[1]])
        elif kind == "if":
            for place, (turned, chain, name) in enumerate(expression[1]):
                self.put("and" if place else "if")
                self.put(*["not"] * (2 * self.chance.randrange(3) + turned))
                self.chain(chain, scope)
                self.put(*(["is", "record"] if name is None else ["has", name]))
            self.put("then")
            self.expr(expression[2], scope)
            self.put("else")
            self.expr(expression[3], scope)
        else:
            self.chain(expression, scope)

    def chain(self, expression, scope):
        if self.needless() or expression[0] in ("let", "if"):
            self.bracketed(expression, scope)
        elif expression[0] == "join":
            self.chain(expression[2], scope)
            self.put(expression[1])
            self.part(expression[3], scope)
        else:
            self.part(expression, scope)

    def part(self, expression, scope):
        kind = expression[0]
        if self.needless() or kind in ("let", "if", "join"):
            self.bracketed(expression, scope)
        elif kind == "number":
            self.put(str(expression[1]))
        elif kind == "variable":
            if expression[1] not in scope:
                self.fault("UnknownName", expression[1])
            self.put(expression[1])
        elif kind == "call":
            self.call(expression, scope)
        elif kind == "literal":
            self.literal(expression, scope)
        else:
            self.step(expression, scope)

    def call(self, expression, scope):
        name, parts = expression[1:]
        if name not in self.counts:
            self.fault("UnknownName", name)
        elif self.counts[name] != len(parts):
            self.fault("WrongCount", name)
        self.put(name, "(")
        for place, part in enumerate(parts):
            self.put(*[","] * (place > 0))
            self.expr(part, scope)
        self.put(")")

    def literal(self, expression, scope):
        seen = []
        self.put("{")
        for name, part in expression[1]:
            self.put(*[","] * (len(seen) > 0))
            if name in seen:
                self.fault("DoubleName", name)
            seen.append(name)
            self.put(name, ":")
            self.expr(part, scope)
        self.put("}")

    def step(self, expression, scope):
        before, change = expression[1:]
        self.part(before, scope)
        if change[0] == ".":
            return self.put(".", change[1])
        if self.words[-1] == "]" and self.chance.random() < 0.5:
            self.words[-1] = ","
        else:
            self.put("[")
        if change[0] in ("put", "add"):
            self.put(change[0], change[1], "=")
            self.expr(change[2], scope)
        elif change[0] == "rename":
            self.put("rename", change[1], "to", change[2])
        elif change[0] == "only":
            self.put("only", *change[1])
        else:
            self.put(*change)
        return self.put("]")

    def text(self):
        """The text, with blanks by chance, and the position of each token in it."""
        text = ""
        starts = []
        for word in self.words:
            glued = text[-1:] + word[0]
            needed = re.fullmatch(r"[a-z]{2}|[0-9]{2}", glued)
            text += self.chance.choice([" ", "\n", "  \n "] if needed else ["", "", " ", "\n", " \n"])
            starts.append(len(text))
            text += word
        return text + self.chance.choice(["", " ", "\n"]), starts


def form(expression, place="expr"):
    """The written form of an expression where an expr, a chain or a part must stand."""
    kind = expression[0]
    if (kind in ("let", "if") and place != "expr") or (kind == "join" and place == "part"):
        return "(" + form(expression) + ")"
    if kind == "number":
        return str(expression[1])
    if kind == "variable":
        return expression[1]
    if kind == "call":
        return expression[1] + "(" + ", ".join(form(part) for part in expression[2]) + ")"
    if kind == "literal":
        return "{" + ", ".join(name + ": " + form(part) for name, part in expression[1]) + "}"
    if kind == "let":
        return "let " + expression[1] + " = " + form(expression[2]) + " in " + form(expression[3])
    if kind == "if":
        tests = [("not " if turned else "") + form(chain, "chain") + (" is record" if name is None else " has " + name)
                 for turned, chain, name in expression[1]]
        return "if " + " and ".join(tests) + " then " + form(expression[2]) + " else " + form(expression[3])
    if kind == "join":
        return form(expression[2], "chain") + " " + expression[1] + " " + form(expression[3], "part")
    return step_form(expression)


def step_form(expression):
    changes = []
    while expression[0] == "step" and expression[2][0] != ".":
        word, *rest = expression[2]
        told = " ".join([word, *rest]) if word in ("cut", "drop") else ""
        if word in ("put", "add"):
            told = word + " " + rest[0] + " = " + form(rest[1])
        elif word == "rename":
            told = "rename " + rest[0] + " to " + rest[1]
        elif word == "only":
            told = " ".join(["only", *rest[0]])
        changes.insert(0, told)
        expression = expression[1]
    if changes:
        return form(expression, "part") + "[" + ", ".join(changes) + "]"
    return form(expression[1], "part") + "." + expression[2][1]


def weight(expression, variables, functions):
    """The weight; `variables` gives their weights, `functions` the parameters and bodies."""
    def weigh(part):
        return weight(part, variables, functions)

    kind = expression[0]
    if kind == "number":
        return 1
    if kind == "variable":
        return variables[expression[1]]
    if kind == "call":
        parts = [weigh(part) for part in expression[2]]
        parameters, body = functions[expression[1]]
        return 1 + sum(parts) + weight(body, dict(zip(parameters, parts)), functions)
    if kind == "literal":
        return 1 + sum(weigh(part) for _, part in expression[1])
    if kind == "let":
        defined = weigh(expression[2])
        return 1 + defined + weight(expression[3], {**variables, expression[1]: defined}, functions)
    if kind == "if":
        return 1 + sum(1 + weigh(chain) for _, chain, _ in expression[1]) + weigh(expression[2]) + weigh(expression[3])
    if kind == "join":
        return 1 + weigh(expression[2]) + weigh(expression[3])
    before = weigh(expression[1])
    word, *rest = expression[2]
    more = {"rename": 3 + before, "put": 1, "add": 1, "only": 1 + len(rest[0])}.get(word, 1)
    return before + more + (weigh(rest[1]) if word in ("put", "add") else 0)


def mentioned(expression):
    """The set of the names of fields in an expression."""
    if isinstance(expression, list):
        return set().union(*map(mentioned, expression))
    kind = expression[0]
    if kind == "literal":
        return {name for name, _ in expression[1]} | mentioned([part for _, part in expression[1]])
    if kind == "if":
        names = {name for _, _, name in expression[1] if name is not None}
        return names | mentioned([chain for _, chain, _ in expression[1]]) | mentioned(list(expression[2:]))
    if kind == "step":
        word, *rest = expression[2]
        names = set(rest[0]) if word == "only" else {name for name in rest if isinstance(name, str)}
        return names | mentioned(expression[1]) | mentioned([part for part in rest if isinstance(part, tuple)])
    parts = {"call": 2, "let": 2, "join": 2}.get(kind)
    if parts is None:
        return set()
    return mentioned(expression[2] if kind == "call" else list(expression[2:]))
