"""Reports on how functions end."""

from growingrecords.cases import cases
from growingrecords.records import value_size


def failures(program, name):
    """All failures of a function that can happen: a list of tuples of what each tells and the fewest fields."""
    least = {}
    for one in cases(program, name):
        if one.outcome[0] == "failure":
            note_least(least, one.outcome[1:], fields_of(one.example))
    ordered = {order_text(failure): failure for failure in least}
    return [(*ordered[text], least[ordered[text]]) for text in sorted([str(text) for text in ordered])]


def table(program, name):
    """The lines that tell all failures of a function, and when it goes well."""
    lines = [failure_line(row) for row in failures(program, name)]
    return [*lines, last_line(program, name)]


def failure_line(row):
    """The line for a failure."""
    kind, at, calls, name, least = row
    shown = "-" if name is None else name
    return f"{at:>5} {kind:<6} {shown:<8} {len(calls):>2} {least:>4}"


def last_line(program, name):
    """The line that tells when a function goes well."""
    least = {}
    for one in cases(program, name):
        note_least(least, one.outcome[0], fields_of(one.example))
    if "value" not in least:
        return "never goes well"
    size = least["value"]
    return f"goes well: {size}"


def note_least(least, key, size):
    """Keeps the size under the key, if none that is less stands there."""
    if key not in least or size < least[key]:
        least[key] = size


def fields_of(example):
    """The number of fields of an example; no member of its case has fewer."""
    return sum([value_size(value) for value in example])


def order_text(failure):
    """A text for each failure; these texts have the order that is promised for the failures."""
    kind, at, calls, name = failure
    # What stands behind a row is a blank, which goes before all that can go on a longer one.
    row = ",".join([f"{call:012d}" for call in calls])
    shown = "" if name is None else name
    return f"{at:012d} {row} {kind} {shown}"
