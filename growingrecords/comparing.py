"""Compares functions for all arguments."""

from growingrecords.differing import Search, differing
from growingrecords.errors import Mismatch, TooLarge
from growingrecords.exploring import MOST_PATHS, endings_among
from growingrecords.knowledge import meetings
from growingrecords.members import numbered, smallest_member

# Up to so many cases and paths the answers are always exact.
FEW_CASES = 12
FEW_PATHS = 6


class Contest:
    """Two functions that are compared: the number of their parameters, their endings, and a search for other values."""

    def __init__(self, count, firsts, seconds, search):
        self.count = count
        self.firsts = firsts
        self.seconds = seconds
        self.search = search


def parting(program, first, second):
    """Arguments for which one function goes well and the other one fails, or gives another value; None if alike."""
    return parting_member(contest_of(program, first, second))


def unrefined(program, first, second):
    """Arguments for which the first function goes well and the second one does not, or gives another value."""
    return unrefined_member(contest_of(program, first, second))


def alike(program, first, second):
    """True if both functions fail, or go well with equal values, for the same arguments, otherwise False."""
    return parting(program, first, second) is None


def refines(program, first, second):
    """True if the second function gives what the first one gives wherever that goes well, otherwise False."""
    return unrefined(program, first, second) is None


def contest_of(program, first, second):
    """Two functions of a program, to be compared."""
    count = len(program.parameters(first))
    if len(program.parameters(second)) != count:
        raise Mismatch()
    return contest_between(program, first, program, second)


def contest_between(first_program, first, second_program, second):
    """Functions of two programs with equal numbers of parameters; a name is mentioned if one program mentions it."""
    names = {name: True for name in (*first_program.mentioned, *second_program.mentioned)}
    mentioned = tuple(sorted([str(name) for name in names]))
    try:
        firsts = endings_among(first_program, first, mentioned)
        seconds = endings_among(second_program, second, mentioned)
    except TooLarge:
        raise TooLarge(first) from None
    both = (*firsts, *seconds)
    if count_paths(both, "lies") > MOST_PATHS:
        raise TooLarge(first)
    few = max(len(firsts), len(seconds)) <= FEW_CASES and count_paths(both, "record") <= FEW_PATHS
    count = len(first_program.parameters(first))
    return Contest(count, firsts, seconds, Search(first, mentioned, not few))


def count_paths(endings, word):
    """How many different paths occur in the questions of the cases that begin with this word."""
    found = {}
    for ending in endings:
        for question, _ in ending.facts:
            if question[0] == word:
                for path in question_paths(question):
                    found[path] = True
    return len(found)


def question_paths(question):
    """The paths in a question, a tuple."""
    return question[2] if question[0] == "lies" else (question[1],)


def unrefined_member(contest):
    """Arguments for which the first function goes well and the second one does not, or gives another value."""
    return lost_member(contest, ended_well(contest.firsts), contest.seconds)


def parting_member(contest):
    """Arguments for which one function goes well and the other one fails, or gives another value; None if alike."""
    found = unrefined_member(contest)
    if found is not None:
        return found
    # By now all values of both have been compared.
    failed = [ending for ending in contest.firsts if ending.failure is not None]
    return lost_member(contest, ended_well(contest.seconds), failed)


def ended_well(endings):
    """Those of the endings that are no failures."""
    return [ending for ending in endings if ending.failure is None]


def lost_member(contest, goings, others):
    """Arguments with one of the endings that go well, and with one of the others that is a failure or another value."""
    for going in goings:
        for other, known in meetings(going.known, others):
            found = known
            if other.failure is None:
                found = differing(contest.search, known, going.term, other.term)
            if found is not None:
                return numbered(smallest_member(found, contest.count))
    return None
