"""Cases: the arguments of a function whose runs ask the same questions and get the same answers."""

from growingrecords.arguments import check_count, facts_hold
from growingrecords.exploring import endings
from growingrecords.members import smallest_member
from growingrecords.residuals import residual


class Case:
    """A case of a function; made by `cases` and `case_of`."""

    def __init__(self, facts, example, outcome, mentioned):
        self.facts = facts
        self.example = example
        self.outcome = outcome
        self._mentioned = mentioned

    def __contains__(self, arguments):
        return facts_hold(self.facts, arguments, self._mentioned)


def told_case(program, name, ending):
    """The case with this ending; the same object each time."""
    if ending.told is None:
        parameter_names = program.parameters(name)
        example = smallest_member(ending.known, len(parameter_names))
        ending.told = Case(ending.facts, example, told_outcome(ending, parameter_names), program.mentioned)
    return ending.told


def told_outcome(ending, parameter_names):
    """How the runs of a case end, as a case tells it."""
    if ending.failure is not None:
        return ("failure", *ending.failure)
    return ("value", residual(ending.term, parameter_names))


def cases(program, name):
    """The list of all cases of a function, in their order."""
    program.function(name)
    return [told_case(program, name, ending) for ending in endings(program, name)]


def case_of(program, name, *arguments):
    """The case to which the arguments belong."""
    check_count(program, name, arguments)
    found = endings(program, name)
    held = [ending for ending in found if facts_hold(ending.facts, arguments, program.mentioned)]
    return told_case(program, name, held[0])
