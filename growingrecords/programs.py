"""Programs: functions over records, read from a text."""

from growingrecords.errors import TooLarge, UnknownFunction
from growingrecords.reading import read_functions
from growingrecords.weights import heavy_function
from growingrecords.writing import function_text


class Program:
    """The functions of a text; made by `read`."""

    HEAVIEST = 80
    DEEPEST = 100

    def __init__(self, functions, mentioned):
        self.names = tuple([function.name for function in functions])
        self.mentioned = mentioned
        self._functions = {function.name: function for function in functions}
        # What was found out of the functions, by their names and the mentioned ones; kept so that it is found out once.
        self.explored = {}

    @staticmethod
    def read(text):
        """The program that is written in the text."""
        functions, mentioned = read_functions(text, Program.DEEPEST)
        heavy = heavy_function(functions, Program.HEAVIEST)
        if heavy is not None:
            raise TooLarge(heavy)
        return Program(functions, mentioned)

    def function(self, name):
        """The function of this name."""
        if name not in self._functions:
            raise UnknownFunction(name)
        return self._functions[name]

    def parameters(self, name):
        """The names of the parameters of a function, a tuple."""
        return self.function(name).parameter_names

    def written(self):
        """The written form: a line for each function."""
        return "\n".join([function_text(self._functions[name]) for name in self.names])
