"""Runs functions with given arguments."""

from growingrecords.arguments import Arguments, check_count
from growingrecords.errors import Failure
from growingrecords.evaluating import ended_run


def guided_run(program, name, arguments):
    """The run of a function with these arguments, after it has ended."""
    check_count(program, name, arguments)
    return ended_run(program, name, Arguments(arguments, program.mentioned))


def outcome(program, name, *arguments):
    """How a run ends: a tuple of "value" and the value, or of "failure" and what the failure tells."""
    ended = guided_run(program, name, arguments)
    if ended.failure is not None:
        return ("failure", *ended.failure)
    return ("value", ended.guide.worth(ended.term))


def run(program, name, *arguments):
    """The value with which a run ends."""
    ended = guided_run(program, name, arguments)
    if ended.failure is not None:
        kind, at, calls, missing = ended.failure
        raise Failure(kind, at, calls, missing)
    return ended.guide.worth(ended.term)
