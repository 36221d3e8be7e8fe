"""Finds the fewest fields that must be added to arguments for a function to go well."""

from growingrecords.arguments import check_count
from growingrecords.exploring import endings
from growingrecords.members import filled, least_row, note_row
from growingrecords.records import Record


def completed(program, name, *arguments):
    """The arguments with the fewest fields added with which the function goes well, a tuple; None if there are none."""
    check_count(program, name, arguments)
    best = None
    fewest = 0
    for ending in endings(program, name):
        if ending.failure is None:
            added = additions(ending.known, arguments, program.mentioned)
            if added is not None and (best is None or added_count(added) < fewest):
                best = filled_arguments(ending.known, arguments, added)
                fewest = added_count(added)
    return best


def filled_arguments(known, arguments, added):
    """The arguments with the added fields, a tuple."""
    return tuple([filled((index,), value, known.records, added) for index, value in enumerate(arguments)])


def added_count(added):
    """How many fields are added."""
    return sum([len(names) for names in added.values()])


def additions(known, arguments, mentioned):
    """The names that must be added at least for all that is known to be true, by the paths of their records.

    None if the arguments cannot be extended so. What is known are the facts of a case that goes well: no
    name that is not mentioned has to be there.
    """
    if not can_be_extended(known.records, arguments):
        return None
    added = {}
    for name, table in known.tables.items():
        values = [found_value(arguments, path) for path in table.places]
        for one in strange_names(values, mentioned) if name is None else [name]:
            given = [has_field(value, one) for value in values]
            row = least_row(table.rows, given)
            if row is None:
                return None
            note_row(added, one, table.places, given, row)
    return added


def can_be_extended(records, arguments):
    """True if each given value is a record exactly where there must be one, otherwise False."""
    for path, answer in records.items():
        value = found_value(arguments, path)
        if value is not None and isinstance(value, Record) != answer:
            return False
    return True


def found_value(arguments, path):
    """The value at a path in the arguments, None if there is none."""
    value = arguments[path[0]]
    for name in path[1:]:
        if not has_field(value, name):
            return None
        value = value[name]
    return value


def has_field(value, name):
    """True if the value is a record that has the name, otherwise False; None stands for no value."""
    return isinstance(value, Record) and name in value


def strange_names(values, mentioned):
    """The names that are not mentioned of those values that are records, each once."""
    found = {}
    for value in values:
        if isinstance(value, Record):
            for name in value:
                if name not in mentioned:
                    found[name] = True
    return list(found)
