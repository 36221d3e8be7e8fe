"""Terms: what a run computes with.

A term tells how a value came about: where it stands in the program or in the arguments, or of what
terms a record was made. Whether a record in the arguments has a name is told by a guide: an object
with the methods `is_record(path)`, `has(path, name)` and `common(left, right)`.
"""


class Figure:
    """An integer that is written in the program."""

    def __init__(self, at, value):
        self.at = at
        self.value = value


class Given:
    """A value that was found at a path in the arguments."""

    def __init__(self, path):
        self.path = path


class Braces:
    """A record that was made by a literal; `fields` has its terms by their names."""

    def __init__(self, at, fields):
        self.at = at
        self.fields = fields


class Changed:
    """A record that was made by a step; `part` is the new field of `put`, `add` and `rename`, otherwise None."""

    def __init__(self, at, word, before, names, part):
        self.at = at
        self.word = word
        self.before = before
        self.names = names
        self.part = part


class Joined:
    """A record that was made of two records."""

    def __init__(self, at, sign, left, right):
        self.at = at
        self.sign = sign
        self.left = left
        self.right = right


def is_record(term, guide):
    """True if the value of the term is a record, otherwise False."""
    if isinstance(term, Given):
        return guide.is_record(term.path)
    return not isinstance(term, Figure)


def new_name(step):
    """The name of the field that a step puts into the record, None if it puts none."""
    if step.word in ("put", "add"):
        return step.names[0]
    return step.names[1] if step.word == "rename" else None


def told_by_step(step, name):
    """Whether the record behind a step has a name; None if this is so exactly if the record before it has it."""
    # None as a name stands for one that the program does not mention: it is no new name.
    if name is not None and name == new_name(step):
        return True
    if step.word == "only":
        return None if name in step.names else False
    # The other steps take away their first name, except those that put it there.
    return False if name == step.names[0] else None


def has_name(term, name, guide):
    """True if the record has the name, otherwise False."""
    match term:
        case Given():
            return guide.has(term.path, name)
        case Braces():
            return name in term.fields
        case Changed():
            told = told_by_step(term, name)
            return has_name(term.before, name, guide) if told is None else told
        case _:
            return joined_has_name(term, name, guide)


def joined_has_name(join, name, guide):
    """True if what was made of two records has the name, otherwise False."""
    # The order in which the sides are asked is promised.
    if join.sign in ("|", "+"):
        return has_name(join.right, name, guide) or has_name(join.left, name, guide)
    if not has_name(join.left, name, guide):
        return False
    return has_name(join.right, name, guide) == (join.sign == "&")


def field_of(term, name, guide):
    """The term of a field of a record that has the name."""
    match term:
        case Given():
            return Given((*term.path, name))
        case Braces():
            return term.fields[name]
        case Changed():
            return term.part if name == new_name(term) else field_of(term.before, name, guide)
        case _:
            right = term.sign in ("|", "+") and has_name(term.right, name, guide)
            return field_of(term.right if right else term.left, name, guide)


def sources(term):
    """The paths of the records in the arguments of which a record was made, a tuple."""
    match term:
        case Given():
            return (term.path,)
        case Changed():
            return sources(term.before)
        case Joined():
            return united(sources(term.left), sources(term.right))
        case _:
            return ()


def united(first, second):
    """A tuple with the members of the first one and then those of the second one that are not among them."""
    return (*first, *[member for member in second if member not in first])


def all_ways(count):
    """All ways in which a name can lie at so many paths, in ascending order."""
    ways = [()]
    for _ in range(count):
        ways = [(*way, answer) for way in ways for answer in (False, True)]
    return ways


def shared_ways(left, right, name, paths):
    """All ways to lie at the paths with which the name is in both records, in ascending order, a tuple."""
    ways = all_ways(len(paths))
    masks = row_masks(paths, ways)
    everywhere = (1 << len(ways)) - 1
    both = has_mask(field_masks(left, name, masks, everywhere)) & has_mask(field_masks(right, name, masks, everywhere))
    return rows_of(ways, both)


def row_masks(places, rows):
    """For each place the rows in which a name is there, as the bits of a number."""
    masks = {}
    for place, path in enumerate(places):
        masks[path] = sum([1 << index for index, row in enumerate(rows) if row[place]])
    return masks


def rows_of(rows, mask):
    """The rows that are bits of a number, a tuple."""
    return tuple([row for index, row in enumerate(rows) if (mask >> index) & 1 == 1])


def field_masks(term, name, masks, everywhere):
    """What a field of a record can be: pairs of the rows with which it is so, as the bits of a number, and a term.

    `masks` tells for each path the rows with which the name is there, `everywhere` has all rows.
    """
    match term:
        case Given():
            return [(masks[term.path], Given((*term.path, name)))]
        case Braces():
            return [(everywhere, term.fields[name])] if name in term.fields else []
        case Changed():
            told = told_by_step(term, name)
            if told is None:
                return field_masks(term.before, name, masks, everywhere)
            return [(everywhere, term.part)] if told else []
        case _:
            return joined_field_masks(term, name, masks, everywhere)


def joined_field_masks(join, name, masks, everywhere):
    """What a field of what was made of two records can be."""
    rights = field_masks(join.right, name, masks, everywhere)
    right = has_mask(rights)
    stays = right if join.sign == "&" else everywhere ^ right
    found = [(mask & stays, part) for mask, part in field_masks(join.left, name, masks, everywhere)]
    if join.sign in ("|", "+"):
        found.extend(rights)
    return found


def has_mask(found):
    """The rows with which a record has a field that can be what was found, as the bits of a number."""
    mask = 0
    for part_mask, _ in found:
        mask = mask | part_mask
    return mask
