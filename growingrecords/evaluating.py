"""Evaluates the body of a function from the left to the right.

The values are terms, and whatever the run must know of the arguments it asks its guide, in the
promised order. So a run with given arguments and a run for all arguments of a case are the same.
"""

from growingrecords.errors import Failure
from growingrecords.nodes import Call, Choice, Join, Let, Literal, Number, Step
from growingrecords.terms import Braces, Changed, Figure, Given, Joined, field_of, has_name, is_record


class Frame:
    """The body of a function that is being evaluated, and the terms of its variables."""

    def __init__(self, function, arguments, calls):
        self.nodes = function.nodes
        self.body = function.body
        # By the index of the node that a variable is defined by; the nodes of the parameters stand first.
        self.terms = dict(enumerate(arguments))
        self.calls = calls


class Run:
    """A run, and what it leaves behind: a term or a failure, and what it did on its way."""

    def __init__(self, program, guide):
        self.program = program
        self.guide = guide
        self.term = None
        self.failure = None
        # The terms because of which the run failed.
        self.blamed = ()
        # For each `if` that went on with a branch: its position, and whether that was the one behind `then`.
        self.branches = []

    def blame(self, *terms):
        """Tells because of which terms the run is about to fail."""
        self.blamed = terms


def ended_run(program, name, guide):
    """The run of a function, after it has ended."""
    run = Run(program, guide)
    function = program.function(name)
    arguments = [Given((index,)) for index in range(len(function.parameter_names))]
    try:
        run.term = evaluate_body(run, Frame(function, arguments, ()))
    except Failure as e:
        run.failure = (e.kind, e.at, e.calls, e.name)
    return run


def evaluate_body(run, frame):
    """The term of the body of a function."""
    return evaluate(run, frame, frame.body)


def evaluate(run, frame, index):
    """The term of the node with this index."""
    node = frame.nodes[index]
    match node:
        case Number():
            return Figure(node.at, node.value)
        case Literal():
            terms = [evaluate(run, frame, part) for part in node.parts]
            return Braces(node.at, dict(zip(node.names, terms)))
        case Call():
            terms = [evaluate(run, frame, part) for part in node.arguments]
            function = run.program.function(node.name)
            return evaluate_body(run, Frame(function, terms, (*frame.calls, node.at)))
        case Let():
            frame.terms[node.definition] = evaluate(run, frame, node.definition)
            return evaluate(run, frame, node.body)
        case Choice():
            met = tests_hold(run, frame, node.tests)
            run.branches.append((node.at, met))
            return evaluate(run, frame, node.met if met else node.unmet)
        case Join():
            return evaluate_join(run, frame, node)
        case Step():
            return evaluate_step(run, frame, node)
        case _:
            return frame.terms[node.definition]


def tests_hold(run, frame, tests):
    """True if all tests hold, which are looked at until one does not, otherwise False."""
    for test in tests:
        if not test_holds(run, frame, test):
            return False
    return True


def test_holds(run, frame, test):
    """True if the test holds, otherwise False."""
    term = evaluate(run, frame, test.chain)
    if test.word == "is":
        return is_record(term, run.guide) != test.turned
    need_record(run, frame, test.at, term)
    return has_name(term, test.name, run.guide) != test.turned


def evaluate_join(run, frame, join):
    """The term of a chain with signs."""
    left = evaluate(run, frame, join.left)
    right = evaluate(run, frame, join.right)
    need_record(run, frame, join.at, left)
    need_record(run, frame, join.at, right)
    if join.sign == "+":
        shared = run.guide.common(left, right)
        if len(shared) > 0:
            run.blame(left, right)
            raise Failure("shared", join.at, frame.calls, shared[0])
    return Joined(join.at, join.sign, left, right)


def evaluate_step(run, frame, step):
    """The term of a part with a step."""
    before = evaluate(run, frame, step.before)
    need_record(run, frame, step.at, before)
    part = None
    match step.word:
        case ".":
            need_name(run, frame, step, before)
            return field_of(before, step.names[0], run.guide)
        case "put":
            part = evaluate(run, frame, step.part)
        case "add":
            need_no_name(run, frame, step.at, before, step.names[0])
            part = evaluate(run, frame, step.part)
        case "cut":
            need_name(run, frame, step, before)
        case "rename":
            old, new = step.names
            need_name(run, frame, step, before)
            if new != old:
                need_no_name(run, frame, step.at, before, new)
            part = field_of(before, old, run.guide)
    return Changed(step.at, step.word, before, step.names, part)


def need_record(run, frame, at, term):
    """Ends the run if the value is not a record."""
    if not is_record(term, run.guide):
        run.blame(term)
        raise Failure("record", at, frame.calls, None)


def need_name(run, frame, step, before):
    """Ends the run if the record lacks the first name of the step."""
    if not has_name(before, step.names[0], run.guide):
        run.blame(before)
        raise Failure("lacks", step.at, frame.calls, step.names[0])


def need_no_name(run, frame, at, before, name):
    """Ends the run if the record has the name."""
    if has_name(before, name, run.guide):
        run.blame(before)
        raise Failure("there", at, frame.calls, name)
