"""Arguments of which all that is known is true, with as few fields as can be."""

from growingrecords.knowledge import parted
from growingrecords.records import Record
from growingrecords.tokens import LETTERS

# No program mentions a name of so many letters.
STRANGE = "unmentioned"


def smallest_member(known, count):
    """So many arguments of which all that is known is true, a tuple.

    They have the fewest fields, if at most one name that is not mentioned must be there.
    """
    names = {}
    for name, table in known.tables.items():
        if name is not None:
            note_least_row(names, name, table.places, table.rows)
    for index, (paths, ways) in enumerate(known.demands):
        table = known.tables[None]
        _, yes = parted(table, paths, ways)
        note_least_row(names, strange_name(index), table.places, yes)
    return tuple([filled((index,), None, known.records, names) for index in range(count)])


def note_least_row(names, name, places, rows):
    """Adds a name to those of the records that have it in the way with the fewest fields."""
    nothing = [False for _ in places]
    note_row(names, name, places, nothing, least_row(rows, nothing))


def least_row(rows, given):
    """The row with the fewest fields of those that have all given ones; None if there is none."""
    best = None
    for row in rows:
        if has_all(row, given) and (best is None or row.count(True) < best.count(True)):
            best = row
    return best


def has_all(row, given):
    """True if the row has all given fields, otherwise False."""
    return all([has or not had for has, had in zip(row, given)])


def note_row(names, name, places, given, row):
    """Adds a name to those that must be added to the records at the places, where it was not given."""
    for place, had, has in zip(places, given, row):
        if has and not had:
            names.setdefault(place, []).append(name)


def strange_name(index):
    """A name that no program mentions, another one for each index."""
    high, low = divmod(index, len(LETTERS))
    return STRANGE + LETTERS[low] + LETTERS[-1] * high


def filled(path, given, records, names):
    """The value at a path, made of the given one or, if that is None, of nothing.

    `records` tells which values are records, `names` the names that are added to them.
    """
    if path not in records or not records[path]:
        return 0 if given is None else given
    fields = {}
    if given is not None:
        for name in given:
            fields[name] = filled((*path, name), given[name], records, names)
    if path in names:
        for name in names[path]:
            fields[name] = filled((*path, name), None, records, names)
    return Record(fields)


def numbered(arguments):
    """The arguments with other integers, of which no two are equal and none stands in a program, a tuple."""
    taken = []
    return tuple([numbered_value(value, taken) for value in arguments])


def numbered_value(value, taken):
    """The value with integers below 0, of which none is taken; these are taken then."""
    if not isinstance(value, Record):
        taken.append(value)
        return -len(taken)
    return Record({name: numbered_value(value[name], taken) for name in value})
