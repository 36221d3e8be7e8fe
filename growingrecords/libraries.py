"""Libraries: programs in which functions are replaced by others that refine them."""

from growingrecords.comparing import contest_between, unrefined_member
from growingrecords.errors import Mismatch, NotRefined
from growingrecords.programs import Program
from growingrecords.writing import definition_text, function_text


class Library:
    """Holds a program, and those that were there before replacements."""

    def __init__(self, text):
        self.program = Program.read(text)
        self._former = []

    def replace(self, name, body):
        """Puts another expression in the place of the body of a function."""
        self.keep(replaced(self.program, name, body))

    def replace_all(self, *replacements):
        """Makes several replacements, each a tuple of a name and a body, or none; returns their number."""
        program = self.program
        for name, body in replacements:
            program = replaced(program, name, body)
        if len(replacements) > 0:
            self.keep(program)
        return len(replacements)

    def undo(self):
        """Takes back the last call that made a replacement; False if there is none, otherwise True."""
        if len(self._former) == 0:
            return False
        self.program = self._former.pop()
        return True

    def keep(self, program):
        """Holds another program from now on."""
        self._former.append(self.program)
        self.program = program


def replaced(program, name, body):
    """The program with another body of a function, which must refine the present one."""
    program.function(name)
    new = Program.read(replaced_text(program, name, body))
    if shape(new) != shape(program):
        raise Mismatch()
    lost = unrefined_member(contest_between(program, name, new, name))
    if lost is not None:
        raise NotRefined(lost)
    return new


def replaced_text(program, name, body):
    """The written form of the program, in which the line of a function ends with another body."""
    lines = []
    for one in program.names:
        function = program.function(one)
        lines.append(definition_text(function, body) if one == name else function_text(function))
    return "\n".join(lines)


def shape(program):
    """The names of the functions and their numbers of parameters, a list of tuples."""
    return [(name, len(program.parameters(name))) for name in program.names]
