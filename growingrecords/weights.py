"""How much the bodies of functions weigh.

A weight is a list here: what is weighed without the parameters, and then how often each parameter
is weighed. So the body of a function is weighed once, not again for each of its calls.
"""

from growingrecords.nodes import Call, Choice, Join, Let, Literal, Parameter, Step, Variable


def heavy_function(functions, heaviest):
    """The name of the first function whose body weighs more than the heaviest may, otherwise None."""
    bodies = {}
    for function in functions:
        weight = body_weight(function, bodies)
        # The functions behind a heavy one are not weighed: the numbers could grow without bounds.
        if sum(weight) > heaviest:
            return function.name
        bodies[function.name] = weight
    return None


def body_weight(function, bodies):
    """The weight of the body of a function, given those of the earlier functions by their names."""
    nothing = [0] * (1 + len(function.parameter_names))
    weights = []
    for node in function.nodes:
        weights.append(node_weight(node, weights, bodies, nothing))
    return weights[function.body]


def node_weight(node, weights, bodies, nothing):
    """The weight of a node, given those of the nodes before it."""
    match node:
        case Parameter():
            return raised(nothing, 1 + node.place, 1)
        case Variable():
            return weights[node.definition]
        case Call():
            return call_weight(node, weights, bodies[node.name], nothing)
        case Literal():
            return added(raised(nothing, 0, 1), [weights[part] for part in node.parts])
        case Let():
            return added(raised(nothing, 0, 1), [weights[node.definition], weights[node.body]])
        case Choice():
            chains = [weights[test.chain] for test in node.tests]
            return added(raised(nothing, 0, 1 + len(chains)), [*chains, weights[node.met], weights[node.unmet]])
        case Join():
            return added(raised(nothing, 0, 1), [weights[node.left], weights[node.right]])
        case Step():
            return step_weight(node, weights, nothing)
        case _:
            return raised(nothing, 0, 1)


def call_weight(node, weights, body, nothing):
    """The weight of a call: each argument counts for itself and for each use in the body."""
    own = raised(nothing, 0, 1 + body[0])
    return added(own, [scaled(weights[part], 1 + uses) for part, uses in zip(node.arguments, body[1:])])


def step_weight(node, weights, nothing):
    """The weight of a step and of all before it."""
    own = 1
    parts = [weights[node.before]]
    if node.word == "rename":
        own = 3
        parts.append(weights[node.before])
    elif node.word == "only":
        own = 1 + len(node.names)
    elif node.part is not None:
        parts.append(weights[node.part])
    return added(raised(nothing, 0, own), parts)


def raised(weight, index, by):
    """A weight in which one number is higher."""
    return [number + by if place == index else number for place, number in enumerate(weight)]


def scaled(weight, times):
    """A weight several times."""
    return [number * times for number in weight]


def added(weight, others):
    """A weight and others together."""
    total = weight
    for other in others:
        total = [left + right for left, right in zip(total, other)]
    return total
