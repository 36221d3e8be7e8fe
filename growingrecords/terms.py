"""Terms: what a run computes with.

A term tells how a value came about: where it stands in the program or in the arguments, or of what
terms a record was made. Whether a record in the arguments has a name is told by a guide: an object
with the methods `is_record(path)`, `has(path, name)` and `common(left, right)`.
"""


class Figure:
    """An integer that is written in the program."""

    def __init__(self, at, value):
        self.at = at
        self.value = value


class Given:
    """A value that was found at a path in the arguments."""

    def __init__(self, path):
        self.path = path


class Braces:
    """A record that was made by a literal; `fields` has its terms by their names."""

    def __init__(self, at, fields):
        self.at = at
        self.fields = fields


class Changed:
    """A record that was made by a step; `part` is the new field of `put`, `add` and `rename`, otherwise None."""

    def __init__(self, at, word, before, names, part):
        self.at = at
        self.word = word
        self.before = before
        self.names = names
        self.part = part


class Joined:
    """A record that was made of two records."""

    def __init__(self, at, sign, left, right):
        self.at = at
        self.sign = sign
        self.left = left
        self.right = right


def is_record(term, guide):
    """True if the value of the term is a record, otherwise False."""
    if isinstance(term, Given):
        return guide.is_record(term.path)
    return not isinstance(term, Figure)


def new_name(step):
    """The name of the field that a step puts into the record, None if it puts none."""
    if step.word in ("put", "add"):
        return step.names[0]
    return step.names[1] if step.word == "rename" else None


def told_by_step(step, name):
    """Whether the record behind a step has a name; None if this is so exactly if the record before it has it."""
    # None as a name stands for one that the program does not mention: it is no new name.
    if name is not None and name == new_name(step):
        return True
    if step.word == "only":
        return None if name in step.names else False
    # The other steps take away their first name, except those that put it there.
    return False if name == step.names[0] else None


def has_name(term, name, guide):
    """True if the record has the name, otherwise False."""
    match term:
        case Given():
            return guide.has(term.path, name)
        case Braces():
            return name in term.fields
        case Changed():
            told = told_by_step(term, name)
            return has_name(term.before, name, guide) if told is None else told
        case _:
            return joined_has_name(term, name, guide)


def joined_has_name(join, name, guide):
    """True if what was made of two records has the name, otherwise False."""
    # The order in which the sides are asked is promised.
    if join.sign in ("|", "+"):
        return has_name(join.right, name, guide) or has_name(join.left, name, guide)
    if not has_name(join.left, name, guide):
        return False
    return has_name(join.right, name, guide) == (join.sign == "&")


def field_of(term, name, guide):
    """The term of a field of a record that has the name."""
    match term:
        case Given():
            return Given((*term.path, name))
        case Braces():
            return term.fields[name]
        case Changed():
            return term.part if name == new_name(term) else field_of(term.before, name, guide)
        case _:
            right = term.sign in ("|", "+") and has_name(term.right, name, guide)
            return field_of(term.right if right else term.left, name, guide)


def sources(term):
    """The paths of the records in the arguments of which a record was made, a tuple."""
    match term:
        case Given():
            return (term.path,)
        case Changed():
            return sources(term.before)
        case Joined():
            return united(sources(term.left), sources(term.right))
        case _:
            return ()


def united(first, second):
    """A tuple with the members of the first one and then those of the second one that are not among them."""
    return (*first, *[member for member in second if member not in first])


def all_ways(count):
    """All ways in which a name can lie at so many paths, in ascending order."""
    ways = [()]
    for _ in range(count):
        ways = [(*way, answer) for way in ways for answer in (False, True)]
    return ways


def shared_ways(left, right, name, paths):
    """All ways to lie at the paths with which the name is in both records, in ascending order, a tuple."""
    ways = all_ways(len(paths))
    masks = {}
    for place, path in enumerate(paths):
        masks[path] = sum([1 << index for index, way in enumerate(ways) if way[place]])
    everywhere = (1 << len(ways)) - 1
    both = name_mask(left, name, masks, everywhere) & name_mask(right, name, masks, everywhere)
    return tuple([way for index, way in enumerate(ways) if (both >> index) & 1 == 1])


def name_mask(term, name, masks, everywhere):
    """The ways in which the record has the name, as the bits of a number; `masks` tells them for each path."""
    match term:
        case Given():
            return masks[term.path]
        case Braces():
            return everywhere if name in term.fields else 0
        case Changed():
            told = told_by_step(term, name)
            if told is None:
                return name_mask(term.before, name, masks, everywhere)
            return everywhere if told else 0
        case _:
            left = name_mask(term.left, name, masks, everywhere)
            right = name_mask(term.right, name, masks, everywhere)
            if term.sign in ("|", "+"):
                return left | right
            return left & right if term.sign == "&" else left & (everywhere ^ right)
