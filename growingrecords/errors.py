"""The errors of the package, each with the attributes that tell what was wrong."""


class RecordsError(ValueError):
    """The base class of all errors of this package."""


class BadName(RecordsError):
    """A string is not a name of a field."""

    def __init__(self, name):
        super().__init__(f"not a name of a field: {name!r}")
        self.name = name


class NoField(RecordsError):
    """A record lacks a field."""

    def __init__(self, name):
        super().__init__(f"no field {name!r}")
        self.name = name


class FieldThere(RecordsError):
    """A record has a field that it must not have."""

    def __init__(self, name):
        super().__init__(f"there is a field {name!r} already")
        self.name = name


class Shared(RecordsError):
    """Two records that are joined have a name in common."""

    def __init__(self, name):
        super().__init__(f"both records have a field {name!r}")
        self.name = name


class BadText(RecordsError):
    """A text is not a program."""

    def __init__(self, at):
        super().__init__(f"no program goes on so at {at}")
        self.at = at


class TooDeep(RecordsError):
    """An expression of a text is nested too deep."""

    def __init__(self, at):
        super().__init__(f"nested too deep at {at}")
        self.at = at


class DoubleName(RecordsError):
    """A name stands where it stood before."""

    def __init__(self, name, at):
        super().__init__(f"{name} once more at {at}")
        self.name = name
        self.at = at


class UnknownName(RecordsError):
    """A variable or a function is used where it is not defined."""

    def __init__(self, name, at):
        super().__init__(f"{name} is not defined at {at}")
        self.name = name
        self.at = at


class WrongCount(RecordsError):
    """A call in a program has another number of arguments than the function has parameters."""

    def __init__(self, name, at):
        super().__init__(f"wrong number of arguments for {name} at {at}")
        self.name = name
        self.at = at


class TooLarge(RecordsError):
    """A function is too heavy, or has too many cases."""

    def __init__(self, name):
        super().__init__(f"the function {name} is too large")
        self.name = name


class UnknownFunction(RecordsError):
    """A program has no function of a name."""

    def __init__(self, name):
        super().__init__(f"no function {name!r}")
        self.name = name


class WrongArguments(RecordsError):
    """A function is asked about with another number of arguments than it has parameters."""

    def __init__(self, name):
        super().__init__(f"wrong number of arguments for the function {name}")
        self.name = name


class Failure(RecordsError):
    """A run cannot go on."""

    def __init__(self, kind, at, calls, name):
        super().__init__(f"failure {kind!r} at {at} in the calls {calls}, name {name}")
        self.kind = kind
        self.at = at
        self.calls = calls
        self.name = name


class NoBranch(RecordsError):
    """No `if` of a program has a position."""

    def __init__(self, at):
        super().__init__(f"no if at {at}")
        self.at = at


class Mismatch(RecordsError):
    """Two things that are combined or compared do not fit together."""

    def __init__(self):
        super().__init__("these do not fit together")


class NotRefined(RecordsError):
    """A new function does not refine the present one."""

    def __init__(self, arguments):
        told = ", ".join([str(value) for value in arguments])
        super().__init__(f"not refined for the arguments ({told})")
        self.arguments = arguments
