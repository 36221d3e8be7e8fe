"""Finds all ways in which the runs of a function end.

A function is run again and again without arguments. The questions of the runs are answered False as
long as this can be; then the last question that was answered so and could have been answered
otherwise is answered True, and so on. So the runs come in the order of the cases.
"""

from growingrecords.errors import TooLarge
from growingrecords.evaluating import ended_run
from growingrecords.knowledge import forked, nothing_known
from growingrecords.terms import shared_ways, sources, united

MOST_CASES = 200
MOST_PATHS = 6


class Decision:
    """The answer to a question of a run.

    The question is None if the answer followed; `known` is what is known behind the answer, and
    `other` is what would be known if it were True, as long as this has not been looked at.
    """

    def __init__(self, question, answer, known, other):
        self.question = question
        self.answer = answer
        self.known = known
        self.other = other


class Explorer:
    """Guides a run without arguments: at first by the decisions that it was given, then by new ones."""

    def __init__(self, name, mentioned, decisions):
        self.name = name
        self.mentioned = mentioned
        self.decisions = decisions
        self.count = 0
        # The paths in the `lies` questions, asked or not.
        self.lain = ()

    def is_record(self, path):
        """True if the value at the path is taken for a record, otherwise False."""
        return self.next_answer(("record", path))

    def has(self, path, name):
        """True if the record at the path is taken to have the name, otherwise False."""
        return self.next_answer(("has", path, name))

    def common(self, left, right):
        """The name that two records are taken to have in common, in a tuple; () if there is none."""
        paths = united(sources(left), sources(right))
        self.lain = united(self.lain, paths)
        if len(self.lain) > MOST_PATHS:
            raise TooLarge(self.name)
        for name in (*self.mentioned, None):
            question = None
            # It takes long to find all ways, and an answer that was decided needs no question.
            if not self.is_decided():
                question = ("lies", name, paths, shared_ways(left, right, name, paths))
            if self.next_answer(question):
                return (name,)
        return ()

    def is_decided(self):
        """True if the next answer was decided in an earlier run, otherwise False."""
        return self.count < len(self.decisions)

    def next_answer(self, question):
        """The answer to the next question."""
        if not self.is_decided():
            self.decisions.append(decided(self.known_so_far(), question))
        self.count += 1
        return self.decisions[self.count - 1].answer

    def known_so_far(self):
        """What is known behind the last decision."""
        return self.decisions[-1].known if len(self.decisions) > 0 else nothing_known()


class Ending:
    """How all runs of a case end; `known` is what is known of its arguments.

    `told` is the case as it is told, after somebody has asked for it.
    """

    def __init__(self, facts, known, ended):
        self.facts = facts
        self.known = known
        self.term = ended.term
        self.failure = ended.failure
        self.branches = tuple(ended.branches)
        self.told = None


def decided(known, question):
    """A new decision: False, if this can be."""
    no, yes = forked(known, question)
    if no is None:
        return Decision(None, True, yes, None)
    if yes is None:
        return Decision(None, False, no, None)
    return Decision(question, False, no, yes)


def next_decisions(decisions):
    """The decisions with which the next run begins; None if there is no other run."""
    for place in reversed(range(len(decisions))):
        decision = decisions[place]
        if decision.other is not None:
            return [*decisions[:place], Decision(decision.question, True, decision.other, None)]
    return None


def endings(program, name):
    """The endings of all cases of a function, in the order of the cases, a tuple."""
    return endings_among(program, name, program.mentioned)


def endings_among(program, name, mentioned):
    """The endings of all cases if these names are mentioned, which are those of the program and perhaps more."""
    # A program never changes, so what was found out of a function is kept.
    key = (name, mentioned)
    if key not in program.explored:
        program.explored[key] = explored_endings(program, name, mentioned)
    return program.explored[key]


def explored_endings(program, name, mentioned):
    """The endings of all cases of a function, found by running it."""
    found = []
    decisions = []
    while decisions is not None:
        guide = Explorer(name, mentioned, decisions)
        ended = ended_run(program, name, guide)
        facts = tuple([(one.question, one.answer) for one in guide.decisions if one.question is not None])
        found.append(Ending(facts, guide.known_so_far(), ended))
        if len(found) > MOST_CASES:
            raise TooLarge(name)
        decisions = next_decisions(guide.decisions)
    return tuple(found)
