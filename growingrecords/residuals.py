"""Writes the value of a case as an expression without tests and calls."""

from growingrecords.nodes import Join, Literal, Number, Step, Variable
from growingrecords.terms import Braces, Changed, Figure, Given
from growingrecords.writing import node_text

# The nodes stand in no text.
NOWHERE = 0


def residual(term, parameter_names):
    """The text of an expression with the value of a term."""
    nodes = []
    add_term(nodes, term, parameter_names)
    texts = []
    for node in nodes:
        texts.append(node_text(node, nodes, texts))
    return texts[-1]


def add_node(nodes, node):
    """Adds a node; returns its index."""
    nodes.append(node)
    return len(nodes) - 1


def add_term(nodes, term, parameter_names):
    """Adds the nodes of a term; returns the index of the last one."""
    match term:
        case Figure():
            return add_node(nodes, Number(NOWHERE, term.value))
        case Given():
            return add_path(nodes, term.path, parameter_names)
        case Braces():
            parts = [add_term(nodes, part, parameter_names) for part in term.fields.values()]
            return add_node(nodes, Literal(NOWHERE, tuple(term.fields), tuple(parts)))
        case Changed():
            return add_change(nodes, term, parameter_names)
        case _:
            left = add_term(nodes, term.left, parameter_names)
            right = add_term(nodes, term.right, parameter_names)
            sign = "|" if term.sign == "+" else term.sign
            return add_node(nodes, Join(NOWHERE, sign, left, right))


def add_path(nodes, path, parameter_names):
    """Adds the nodes of a value in the arguments; returns the index of the last one."""
    last = add_node(nodes, Variable(NOWHERE, parameter_names[path[0]], path[0]))
    for name in path[1:]:
        last = add_node(nodes, Step(NOWHERE, ".", last, (name,), None))
    return last


def add_change(nodes, step, parameter_names):
    """Adds the nodes of a record that was made by a step; returns the index of the last one."""
    before = add_term(nodes, step.before, parameter_names)
    if step.word in ("put", "add"):
        part = add_term(nodes, step.part, parameter_names)
        return add_node(nodes, Step(NOWHERE, "put", before, step.names, part))
    if step.word == "only":
        return add_node(nodes, Step(NOWHERE, "only", before, step.names, None))
    rest = add_node(nodes, Step(NOWHERE, "drop", before, step.names[:1], None))
    if step.word != "rename":
        return rest
    part = add_term(nodes, step.part, parameter_names)
    return add_node(nodes, Step(NOWHERE, "put", rest, step.names[1:], part))
