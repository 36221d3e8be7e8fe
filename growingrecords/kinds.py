"""Kinds: sets of tuples of arguments."""

from growingrecords.arguments import facts_hold
from growingrecords.errors import Mismatch, NoBranch
from growingrecords.exploring import endings
from growingrecords.knowledge import meetings, nothing_known
from growingrecords.members import smallest_member
from growingrecords.nodes import Choice


class Cell:
    """The tuples of arguments for which some facts hold; `inside` tells whether a kind has them."""

    def __init__(self, facts, known, inside):
        self.facts = facts
        self.known = known
        self.inside = inside


class Pair:
    """A cell that belongs to two kinds; `first` and `second` tell whether they have its arguments."""

    def __init__(self, facts, known, first, second):
        self.facts = facts
        self.known = known
        self.first = first
        self.second = second


class Kind:
    """A set of tuples of arguments; made by `everything`, by the functions of this file and by other kinds.

    Each tuple is in exactly one cell, and no cell is empty. There is a cell for each way to choose a
    case of each of the functions from which the kind comes, if these cases have a member in common.
    """

    def __init__(self, mentioned, count, functions, cells):
        self.mentioned = mentioned
        self.count = count
        self.functions = functions
        self.cells = cells

    @staticmethod
    def everything(program, name):
        """All arguments of a function."""
        count = len(program.parameters(name))
        return Kind(program.mentioned, count, (), [Cell((), nothing_known(), True)])

    @property
    def is_empty(self):
        """True if the kind has no member, otherwise False."""
        return not any([cell.inside for cell in self.cells])

    def member(self):
        """A tuple of arguments that the kind has, None if there is none."""
        for cell in self.cells:
            if cell.inside:
                return smallest_member(cell.known, self.count)
        return None

    def __or__(self, other):
        cells = [Cell(pair.facts, pair.known, pair.first or pair.second) for pair in paired(self, other)]
        return Kind(self.mentioned, self.count, united_functions(self, other), cells)

    def __and__(self, other):
        cells = [Cell(pair.facts, pair.known, pair.first and pair.second) for pair in paired(self, other)]
        return Kind(self.mentioned, self.count, united_functions(self, other), cells)

    def __sub__(self, other):
        cells = [Cell(pair.facts, pair.known, pair.first and not pair.second) for pair in paired(self, other)]
        return Kind(self.mentioned, self.count, united_functions(self, other), cells)

    def __le__(self, other):
        return not any([pair.first and not pair.second for pair in paired(self, other)])

    def __contains__(self, arguments):
        for cell in self.cells:
            if cell.inside and facts_hold(cell.facts, arguments, self.mentioned):
                return True
        return False

    def __bool__(self):
        return not self.is_empty


def paired(first, second):
    """The pairs of the cells of two kinds that have a member in common."""
    if first.count != second.count or first.mentioned != second.mentioned:
        raise Mismatch()
    if first.functions == second.functions:
        # Then the cells are the same ones, in the same order.
        return [Pair(one.facts, one.known, one.inside, two.inside) for one, two in zip(first.cells, second.cells)]
    found = []
    for cell in first.cells:
        found.extend(refined(cell, second.cells))
    return found


def refined(cell, others):
    """The pairs of a cell and each of the others with which it has a member in common."""
    told = {fact: True for fact in cell.facts}
    found = []
    for other, known in meetings(cell.known, others):
        new = [fact for fact in other.facts if fact not in told]
        found.append(Pair((*cell.facts, *new), known, cell.inside, other.inside))
    return found


def united_functions(first, second):
    """The functions from which two kinds come, each one once."""
    return (*first.functions, *[function for function in second.functions if function not in first.functions])


def kind_of(program, name, inside):
    """The kind with those cases of a function that are inside."""
    cells = []
    for ending, is_inside in zip(endings(program, name), inside):
        cells.append(Cell(ending.facts, ending.known, is_inside))
    return Kind(program.mentioned, len(program.parameters(name)), (program.function(name),), cells)


def going(program, name):
    """The arguments for which a function goes well."""
    program.function(name)
    return kind_of(program, name, [ending.failure is None for ending in endings(program, name)])


def failing(program, name, *, at=None):
    """The arguments for which a function fails, anywhere or at a position."""
    program.function(name)
    failures = [ending.failure for ending in endings(program, name)]
    return kind_of(program, name, [failure is not None and at in (None, failure[1]) for failure in failures])


def taking(program, name, at, *, branch):
    """The arguments for which a run takes the branch behind `then`, or behind `else`, of the `if` at a position."""
    program.function(name)
    if not has_choice(program, at):
        raise NoBranch(at)
    return kind_of(program, name, [(at, branch) in ending.branches for ending in endings(program, name)])


def has_choice(program, at):
    """True if an `if` of the program has this position, otherwise False."""
    functions = [program.function(name) for name in program.names]
    return any([isinstance(node, Choice) and node.at == at for function in functions for node in function.nodes])
