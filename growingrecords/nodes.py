"""What a program is made of after it has been read.

The body of a function is a row of nodes. A node tells the nodes that it is made of by their
indexes in this row, and it stands behind all of them. So the row can be walked from its beginning
to its end, without following what is nested. `at` is always a position in the text.
"""


class Function:
    """A function; its body is the node with the index `body`."""

    def __init__(self, name, parameter_names, nodes, body):
        self.name = name
        self.parameter_names = parameter_names
        self.nodes = nodes
        self.body = body


class Parameter:
    """A parameter. These nodes stand first in each function, in the order of the parameters: `place` counts from 0."""

    def __init__(self, name, place):
        self.name = name
        self.place = place


class Number:
    """An integer that is written in the program."""

    def __init__(self, at, value):
        self.at = at
        self.value = value


class Variable:
    """A use of a variable; `definition` is the node of the parameter or of what a `let` defines it by."""

    def __init__(self, at, name, definition):
        self.at = at
        self.name = name
        self.definition = definition


class Call:
    """A call of a function; `at` is the position of the function's name."""

    def __init__(self, at, name, arguments):
        self.at = at
        self.name = name
        self.arguments = arguments


class Literal:
    """A record that is written in the program; `at` is the position of its opening bracket."""

    def __init__(self, at, names, parts):
        self.at = at
        self.names = names
        self.parts = parts


class Let:
    """The definition of a variable and the expression behind `in`."""

    def __init__(self, name, definition, body):
        self.name = name
        self.definition = definition
        self.body = body


class Test:
    """A test of an `if`: `word` is `has` or `is`, `at` its position; `turned` tells an odd row of `not`."""

    def __init__(self, at, word, turned, chain, name):
        self.at = at
        self.word = word
        self.turned = turned
        self.chain = chain
        self.name = name


class Choice:
    """An `if`: its tests, and the branches behind `then` and `else`."""

    def __init__(self, at, tests, met, unmet):
        self.at = at
        self.tests = tests
        self.met = met
        self.unmet = unmet


class Join:
    """Two records with a sign between them."""

    def __init__(self, at, sign, left, right):
        self.at = at
        self.sign = sign
        self.left = left
        self.right = right


class Step:
    """A step behind the record `before`: `word` is `.` or the first word of a change.

    `part` is the expression of `put` and `add`, otherwise None.
    """

    def __init__(self, at, word, before, names, part):
        self.at = at
        self.word = word
        self.before = before
        self.names = names
        self.part = part
