"""What is known of arguments after some questions have been answered.

Different names of fields do not influence one another. So it is enough to know which values are
records and which are not, for each name that the program mentions how it can lie in the records,
and the same for all names that it does not mention. Nothing here is changed after it was made.
"""


class Table:
    """All ways in which a name can lie at some places; the places are paths of records."""

    def __init__(self, places, rows):
        self.places = places
        self.rows = rows


class Knowledge:
    """What is known of arguments.

    `records` tells of paths whether a record is there, `tables` has a table for each name about which
    something is known, and one under None for all names that the program does not mention. `demands`
    are pairs of paths and ways: for each of them there is a name that is not mentioned and lies so.
    """

    def __init__(self, records, tables, demands):
        self.records = records
        self.tables = tables
        self.demands = demands


def nothing_known():
    """What is known before the first question."""
    return Knowledge({}, {}, ())


def forked(known, question):
    """What is known after the answer False and after the answer True; None for an answer that cannot be."""
    if question[0] == "record":
        return forked_by_record(known, question[1])
    if question[0] == "has":
        return forked_by_name(known, question[2], (question[1],), ((True,),))
    if question[1] is None:
        return forked_by_others(known, question[2], question[3])
    return forked_by_name(known, question[1], question[2], question[3])


def learned(known, fact):
    """What is known after a fact; None if it cannot be."""
    question, answer = fact
    no, yes = forked(known, question)
    return yes if answer else no


def meetings(known, others):
    """Those of the others whose facts go with what is known: pairs of them and of what is known then."""
    found = []
    # The facts of the other that was looked at last, as far as they can be, and what is known before
    # them and behind each of them. Most of this serves for the next one, too.
    facts = []
    levels = [known]
    for other in others:
        alike = common_length(facts, other.facts)
        if levels[-1] is None and alike == len(facts):
            continue
        facts = list(other.facts[:alike])
        levels = list(levels[:alike + 1])
        while levels[-1] is not None and len(facts) < len(other.facts):
            facts.append(other.facts[len(facts)])
            levels.append(learned(levels[-1], facts[-1]))
        if levels[-1] is not None:
            found.append((other, levels[-1]))
    return found


def common_length(first, second):
    """How many members two rows have in common at their beginnings."""
    length = 0
    while length < len(first) and length < len(second) and first[length] == second[length]:
        length += 1
    return length


def forked_by_record(known, path):
    """What is known after both answers to whether there is a record."""
    if path in known.records:
        return (None, known) if known.records[path] else (known, None)
    no = Knowledge(with_entry(known.records, path, False), known.tables, known.demands)
    yes = Knowledge(with_entry(known.records, path, True), known.tables, known.demands)
    return (no, yes)


def forked_by_name(known, name, paths, ways):
    """What is known after both answers to whether a mentioned name lies in one of the ways."""
    wide = widened(table_of(known, name), paths)
    no, yes = parted(wide, paths, ways)
    if len(no) == 0:
        return (None, known)
    if len(yes) == 0:
        return (known, None)
    return (with_table(known, name, Table(wide.places, no)), with_table(known, name, Table(wide.places, yes)))


def forked_by_others(known, paths, ways):
    """What is known after both answers to whether a name that is not mentioned lies in one of the ways."""
    wide = widened(table_of(known, None), paths)
    no, yes = parted(wide, paths, ways)
    if len(yes) == 0:
        return (known, None)
    # Unlike a mentioned name, such a name need not be there: the records can do without it.
    denied = Table(wide.places, no)
    asked = Knowledge(known.records, known.tables, (*known.demands, (paths, ways)))
    agreed = with_table(asked, None, wide)
    if not all([can_lie(denied, places, rows) for places, rows in known.demands]):
        return (None, agreed)
    return (with_table(known, None, denied), agreed)


def table_of(known, name):
    """The table of a name."""
    return known.tables[name] if name in known.tables else Table((), ((),))


def with_table(known, name, table):
    """What is known, with this table for a name."""
    return Knowledge(known.records, with_entry(known.tables, name, table), known.demands)


def with_entry(told, key, worth):
    """A copy of a dict, with this entry."""
    copied = {old: told[old] for old in told}
    copied[key] = worth
    return copied


def widened(table, paths):
    """The table with these places, too; of new ones nothing is known."""
    new = [path for path in paths if path not in table.places]
    rows = table.rows
    for _ in new:
        rows = [(*row, answer) for row in rows for answer in (False, True)]
    return Table((*table.places, *new), tuple(rows))


def parted(table, paths, ways):
    """The rows of a table that lie in none of the ways, and those that lie in one, two tuples."""
    found = {path: place for place, path in enumerate(table.places)}
    places = [found[path] for path in paths]
    wanted = {way: True for way in ways}
    no = []
    yes = []
    for row in table.rows:
        if tuple([row[place] for place in places]) in wanted:
            yes.append(row)
        else:
            no.append(row)
    return (tuple(no), tuple(yes))


def can_lie(table, paths, ways):
    """True if a name with this table can lie in one of the ways, otherwise False."""
    _, yes = parted(table, paths, ways)
    return len(yes) > 0
