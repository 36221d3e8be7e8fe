"""Given arguments: what is found in them, and the values of terms."""

from growingrecords.errors import WrongArguments
from growingrecords.records import Record
from growingrecords.terms import Braces, Changed, Figure, Given


def check_count(program, name, arguments):
    """Raises an error if the arguments are not as many as the function has parameters."""
    if len(arguments) != len(program.parameters(name)):
        raise WrongArguments(name)


def value_at(arguments, path):
    """The value at a path in the arguments."""
    value = arguments[path[0]]
    for name in path[1:]:
        value = value[name]
    return value


def facts_hold(facts, arguments, mentioned):
    """True if all questions have the answers that the facts tell, otherwise False."""
    # One fact may tell that there is what the next one asks about.
    for question, answer in facts:
        if question_holds(question, arguments, mentioned) != answer:
            return False
    return True


def question_holds(question, arguments, mentioned):
    """The answer to a question."""
    if question[0] == "record":
        return isinstance(value_at(arguments, question[1]), Record)
    if question[0] == "has":
        return question[2] in value_at(arguments, question[1])
    name = question[1]
    records = [value_at(arguments, path) for path in question[2]]
    names = other_names(records, mentioned) if name is None else [name]
    return any([way_of(one, records) in question[3] for one in names])


def other_names(records, mentioned):
    """The names of some records that a program does not mention."""
    return [name for record in records for name in record if name not in mentioned]


def way_of(name, records):
    """The way in which a name lies in some records, a tuple."""
    return tuple([name in record for record in records])


class Arguments:
    """Guides a run with given arguments."""

    def __init__(self, given, mentioned):
        self.given = given
        self.mentioned = mentioned
        self.worths = {}

    def is_record(self, path):
        """True if the value at the path is a record, otherwise False."""
        return isinstance(value_at(self.given, path), Record)

    def has(self, path, name):
        """True if the record at the path has the name, otherwise False."""
        return name in value_at(self.given, path)

    def common(self, left, right):
        """The name that two records have in common, as a failure tells it, in a tuple; () if there is none."""
        names = self.common_names(left, right)
        for name in self.mentioned:
            if name in names:
                return (name,)
        return (None,) if len(names) > 0 else ()

    def common_names(self, left, right):
        """The names that two records have in common, in ascending order."""
        second = self.worth(right)
        return [name for name in self.worth(left) if name in second]

    def worth(self, term):
        """The value of a term."""
        if term not in self.worths:
            self.worths[term] = self.computed(term)
        return self.worths[term]

    def computed(self, term):
        """The value of a term, computed of the values of its parts."""
        match term:
            case Figure():
                return term.value
            case Given():
                return value_at(self.given, term.path)
            case Braces():
                return Record({name: self.worth(part) for name, part in term.fields.items()})
            case Changed():
                return self.changed_worth(term)
            case _:
                return self.joined_worth(term)

    def changed_worth(self, step):
        """The value of a record that was made by a step."""
        record = self.worth(step.before)
        if step.word in ("put", "add"):
            return record.put(step.names[0], self.worth(step.part))
        if step.word == "rename":
            old, new = step.names
            return record.without(old).put(new, self.worth(step.part))
        return record.only(*step.names) if step.word == "only" else record.without(*step.names)

    def joined_worth(self, join):
        """The value of a record that was made of two records."""
        left = self.worth(join.left)
        right = self.worth(join.right)
        if join.sign == "-":
            return left - right
        return left & right if join.sign == "&" else left | right
