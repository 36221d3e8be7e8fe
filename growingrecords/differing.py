"""Finds out whether two terms have different values for some arguments of which something is known.

Different names of a record do not influence one another, so each mentioned name is looked at alone, and
all names that are not mentioned are looked at as one. Values of which nothing need be known are taken for
integers of which no two are equal and none stands in a program: then terms that are not the same differ.
"""

from growingrecords.errors import TooLarge
from growingrecords.knowledge import Knowledge, Table, table_of, widened, with_table
from growingrecords.sameness import is_same_term
from growingrecords.terms import Figure, Given, field_masks, has_mask, row_masks, rows_of, sources, united

MOST_ROWS = 4096
MOST_ROWS_TOGETHER = 500000


class Search:
    """The names that are looked at in a comparison, and how many rows of tables it may still go through.

    `limited` tells whether there is a limit; behind it TooLarge is raised for the function of this name.
    """

    def __init__(self, name, mentioned, limited):
        self.name = name
        self.names = (*mentioned, None)
        self.limited = limited
        self.rows_left = MOST_ROWS_TOGETHER

    def spend(self, rows):
        """Tells that so many rows are about to be gone through."""
        if self.limited:
            self.rows_left = self.rows_left - rows
            if rows > MOST_ROWS or self.rows_left < 0:
                raise TooLarge(self.name)


def differing(search, known, left, right):
    """What is known of some arguments for which the terms have different values; None if there are none."""
    if is_same_term(left, right):
        return None
    if may_be_integer(left, known) or may_be_integer(right, known):
        return known
    places = united(sources(left), sources(right))
    for name in search.names:
        found = differing_at(search, known, name, left, right, places)
        if found is not None:
            return found
    return None


def may_be_integer(term, known):
    """True if it is not known that the value of the term is a record, otherwise False."""
    if isinstance(term, Given):
        return term.path not in known.records or not known.records[term.path]
    return isinstance(term, Figure)


def differing_at(search, known, name, left, right, places):
    """As `differing`, for two records and one name of a field; they were made of the records at the places."""
    table = table_of(known, name)
    new = [path for path in places if path not in table.places]
    search.spend(len(table.rows) << len(new))
    table = widened(table, places)
    masks = row_masks(table.places, table.rows)
    everywhere = (1 << len(table.rows)) - 1
    lefts = field_masks(left, name, masks, everywhere)
    rights = field_masks(right, name, masks, everywhere)
    one_sided = has_mask(lefts) ^ has_mask(rights)
    if one_sided != 0:
        return narrowed(known, name, table, one_sided)
    for left_mask, left_part in lefts:
        for right_mask, right_part in rights:
            both = left_mask & right_mask
            if both != 0 and not is_same_term(left_part, right_part):
                found = differing(search, narrowed(known, name, table, both), left_part, right_part)
                if found is not None:
                    return found
    return None


def narrowed(known, name, table, mask):
    """What is known if a name lies in one of these rows of its table, or, if it is None, one that is not mentioned."""
    rows = rows_of(table.rows, mask)
    if name is not None:
        return with_table(known, name, Table(table.places, rows))
    wide = with_table(known, None, table)
    return Knowledge(wide.records, wide.tables, (*wide.demands, (table.places, rows)))
