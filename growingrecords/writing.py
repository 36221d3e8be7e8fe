"""Writes functions in the one form that each of them has."""

from growingrecords.nodes import Call, Choice, Join, Let, Literal, Number, Step


def function_text(function):
    """The line of a function."""
    texts = []
    for node in function.nodes:
        texts.append(node_text(node, function.nodes, texts))
    return definition_text(function, texts[function.body])


def definition_text(function, body):
    """The line of a function with this text as its body."""
    return f"def {call_text(function.name, function.parameter_names)} = {body}"


def node_text(node, nodes, texts):
    """The text of a node, given those of the nodes before it."""
    match node:
        case Number():
            return str(node.value)
        case Call():
            return call_text(node.name, [texts[part] for part in node.arguments])
        case Literal():
            inner = ", ".join([f"{name}: {texts[part]}" for name, part in zip(node.names, node.parts)])
            return f"{{{inner}}}"
        case Let():
            return f"let {node.name} = {texts[node.definition]} in {texts[node.body]}"
        case Choice():
            tests = " and ".join([test_text(test, nodes, texts) for test in node.tests])
            return f"if {tests} then {texts[node.met]} else {texts[node.unmet]}"
        case Join():
            return f"{chain_text(node.left, nodes, texts)} {node.sign} {link_text(node.right, nodes, texts)}"
        case Step():
            return step_text(node, nodes, texts)
        case _:
            return node.name


def call_text(name, parts):
    """The text of a call, or of the beginning of a definition."""
    return f"{name}({', '.join(parts)})"


def test_text(test, nodes, texts):
    """The text of a test."""
    asked = chain_text(test.chain, nodes, texts)
    if test.turned:
        asked = f"not {asked}"
    return f"{asked} is record" if test.name is None else f"{asked} has {test.name}"


def chain_text(index, nodes, texts):
    """The text of a node where a chain may stand, but no `let` and no `if`."""
    node = nodes[index]
    if isinstance(node, Let) or isinstance(node, Choice):
        return f"({texts[index]})"
    return texts[index]


def link_text(index, nodes, texts):
    """The text of a node where a chain with signs may not stand either."""
    if isinstance(nodes[index], Join):
        return f"({texts[index]})"
    return chain_text(index, nodes, texts)


def step_text(node, nodes, texts):
    """The text of a step and of all before it."""
    before = link_text(node.before, nodes, texts)
    if node.word == ".":
        return f"{before}.{node.names[0]}"
    change = change_text(node, texts)
    if is_change(nodes[node.before]):
        # The change before this one has just closed the square bracket.
        return f"{before[:-1]}, {change}]"
    return f"{before}[{change}]"


def is_change(node):
    """True if the node is a step that stands in square brackets."""
    return isinstance(node, Step) and node.word != "."


def change_text(node, texts):
    """The text of a change, without square brackets."""
    if node.word == "rename":
        old, new = node.names
        return f"rename {old} to {new}"
    if node.part is not None:
        return f"{node.word} {node.names[0]} = {texts[node.part]}"
    return " ".join([node.word, *node.names])
