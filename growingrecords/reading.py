"""Reads the text of a program.

The goals that are still to be reached are kept in a list instead of calls that are under way, so
neither what is nested nor what is long makes the reading deep.
"""

from growingrecords.errors import BadText, DoubleName, TooDeep, UnknownName, WrongCount
from growingrecords.grammar import GRAMMAR
from growingrecords.nodes import Call, Choice, Function, Join, Let, Literal, Number, Parameter, Step, Test, Variable
from growingrecords.tokens import cut_text


class Draft:
    """What is known so far of something that is being read.

    `before` is the node that was finished last when it began.
    """

    def __init__(self, token, before):
        self.at = token.at
        self.word = token.word
        self.before = before
        self.names = []
        self.parts = []
        self.tests = []
        self.turned = False


class Reader:
    """The state of the reading of one text."""

    def __init__(self, text, deepest):
        self.tokens = cut_text(text)
        self.place = 0
        self.goals = ["<program>"]
        self.taken = None
        self.deepest = deepest
        self.level = 0
        self.drafts = []
        self.functions = []
        self.counts = {}
        self.mentioned = {}
        self.fault = None
        # The following three belong to the function that is being read.
        self.nodes = []
        self.last = None
        self.scope = []

    def coming(self):
        """The next token."""
        return self.tokens[self.place]

    def take(self, kind):
        """Goes past the next token, which must be of this kind."""
        token = self.coming()
        if token.kind != kind:
            raise BadText(token.at)
        self.taken = token
        self.place += 1

    def replace_goal(self, goal):
        """Takes up the goals that stand for this one."""
        token = self.coming()
        goals = GRAMMAR.get((goal, token.kind))
        if goals is None:
            goals = GRAMMAR.get((goal, "*"))
        if goals is None:
            raise BadText(token.at)
        self.goals.extend(goals[::-1])

    def finish(self, node):
        """Puts a node behind those of the function."""
        self.last = len(self.nodes)
        self.nodes.append(node)

    def find_fault(self, kind, name, at):
        """Keeps a wrong use of a name unless an earlier one is known; the text is read to its end first."""
        if self.fault is None or at < self.fault[0]:
            self.fault = (at, kind, name)

    def find_definition(self, name):
        """The node by which a variable is defined here, None if there is none."""
        found = None
        for known, node in self.scope:
            if known == name:
                found = node
        return found


def read_functions(text, deepest):
    """The functions of a program and the names of fields that it mentions, two tuples."""
    reader = Reader(text, deepest)
    while len(reader.goals) > 0:
        goal = reader.goals.pop()
        if goal in ACTIONS:
            action = ACTIONS[goal]
            action(reader)
        elif goal[0] == "<":
            reader.replace_goal(goal)
        else:
            reader.take(goal)
    raise_fault(reader.fault)
    return tuple(reader.functions), tuple(sorted([str(name) for name in reader.mentioned]))


def raise_fault(fault):
    """Raises the error for the first wrong use of a name, if there is one."""
    if fault is None:
        return
    at, kind, name = fault
    if kind == "double":
        raise DoubleName(name, at)
    if kind == "unknown":
        raise UnknownName(name, at)
    raise WrongCount(name, at)


def begin(reader):
    """Begins what the token that was read last stands for."""
    reader.drafts.append(Draft(reader.taken, reader.last))


def begin_function(reader):
    """Begins a function behind its name."""
    token = reader.taken
    if token.word in reader.counts:
        reader.find_fault("double", token.word, token.at)
    reader.nodes = []
    reader.last = None
    reader.scope = []
    begin(reader)


def add_parameter(reader):
    """Adds a parameter to the function."""
    token = reader.taken
    names = reader.drafts[-1].names
    if token.word in names:
        reader.find_fault("double", token.word, token.at)
    reader.finish(Parameter(token.word, len(names)))
    reader.scope.append((token.word, reader.last))
    names.append(token.word)


def end_function(reader):
    """Ends a function behind its body."""
    draft = reader.drafts.pop()
    names = tuple(draft.names)
    reader.functions.append(Function(draft.word, names, tuple(reader.nodes), reader.last))
    # From here on the function may be called; in its own body it may not.
    reader.counts[draft.word] = len(names)


def enter(reader):
    """Enters an expression, before its first token is looked at."""
    reader.level += 1
    if reader.level > reader.deepest:
        raise TooDeep(reader.coming().at)


def leave(reader):
    """Leaves an expression."""
    reader.level -= 1


def add_part(reader):
    """Adds the expression that was read last."""
    reader.drafts[-1].parts.append(reader.last)


def add_field(reader):
    """Adds the name of a field."""
    word = reader.taken.word
    reader.mentioned[word] = True
    reader.drafts[-1].names.append(word)


def add_new_field(reader):
    """Adds the name of a field of a literal, which must not have it yet."""
    token = reader.taken
    if token.word in reader.drafts[-1].names:
        reader.find_fault("double", token.word, token.at)
    add_field(reader)


def define(reader):
    """Makes the variable of a `let` known behind its definition."""
    draft = reader.drafts[-1]
    draft.parts.append(reader.last)
    reader.scope.append((draft.word, reader.last))


def end_let(reader):
    """Ends a `let`; its variable is not known behind it."""
    draft = reader.drafts.pop()
    reader.scope.pop()
    reader.finish(Let(draft.word, draft.parts[0], reader.last))


def turn(reader):
    """Turns a test round."""
    draft = reader.drafts[-1]
    draft.turned = not draft.turned


def add_relation(reader):
    """Tells a test what it asks of its chain."""
    draft = reader.drafts[-1]
    draft.at = reader.taken.at
    draft.word = reader.taken.word


def end_test(reader):
    """Ends a test and adds it to its `if`."""
    draft = reader.drafts.pop()
    name = draft.names[0] if draft.word == "has" else None
    reader.drafts[-1].tests.append(Test(draft.at, draft.word, draft.turned, draft.parts[0], name))


def end_choice(reader):
    """Ends an `if`."""
    draft = reader.drafts.pop()
    met, unmet = draft.parts
    reader.finish(Choice(draft.at, tuple(draft.tests), met, unmet))


def end_join(reader):
    """Ends what stands on both sides of a sign."""
    draft = reader.drafts.pop()
    reader.finish(Join(draft.at, draft.word, draft.before, reader.last))


def end_step(reader):
    """Ends a step."""
    draft = reader.drafts.pop()
    part = draft.parts[0] if len(draft.parts) > 0 else None
    reader.finish(Step(draft.at, draft.word, draft.before, tuple(draft.names), part))


def add_number(reader):
    """Adds a number."""
    reader.finish(Number(reader.taken.at, int(reader.taken.word)))


def end_variable(reader):
    """Ends the use of a variable."""
    draft = reader.drafts.pop()
    definition = reader.find_definition(draft.word)
    if definition is None:
        reader.find_fault("unknown", draft.word, draft.at)
    reader.finish(Variable(draft.at, draft.word, definition))


def end_call(reader):
    """Ends a call behind its closing bracket."""
    draft = reader.drafts.pop()
    if draft.word not in reader.counts:
        reader.find_fault("unknown", draft.word, draft.at)
    elif reader.counts[draft.word] != len(draft.parts):
        reader.find_fault("count", draft.word, draft.at)
    reader.finish(Call(draft.at, draft.word, tuple(draft.parts)))


def end_literal(reader):
    """Ends a literal behind its closing bracket."""
    draft = reader.drafts.pop()
    reader.finish(Literal(draft.at, tuple(draft.names), tuple(draft.parts)))


ACTIONS = {
    "!begin": begin,
    "!function": begin_function,
    "!parameter": add_parameter,
    "!body": end_function,
    "!enter": enter,
    "!leave": leave,
    "!part": add_part,
    "!field": add_field,
    "!new field": add_new_field,
    "!define": define,
    "!let": end_let,
    "!turn": turn,
    "!relation": add_relation,
    "!test": end_test,
    "!choice": end_choice,
    "!join": end_join,
    "!step": end_step,
    "!number": add_number,
    "!variable": end_variable,
    "!call": end_call,
    "!literal": end_literal,
}
