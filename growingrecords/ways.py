"""Explains failures: the ways by which records lack names and have them."""

from growingrecords.running import guided_run
from growingrecords.terms import Braces, Changed, Figure, Given, has_name, new_name, told_by_step


def why(program, name, *arguments):
    """The way by which a run comes to its failure, a tuple; None if the function goes well."""
    ended = guided_run(program, name, arguments)
    if ended.failure is None:
        return None
    kind, _, _, missing = ended.failure
    guide = ended.guide
    blamed = ended.blamed[0]
    if kind == "record":
        return integer_way(blamed)
    if kind == "lacks":
        return lack_way(blamed, missing, guide)
    if kind == "there":
        return have_way(blamed, missing, guide)
    left, right = ended.blamed
    shared = guide.common_names(left, right)[0] if missing is None else missing
    return ("both", shared, have_way(left, shared, guide), have_way(right, shared, guide))


def integer_way(term):
    """Where an integer comes from."""
    return ("number", term.at) if isinstance(term, Figure) else ("argument", term.path)


def lack_way(term, name, guide):
    """The way by which a record lacks a name."""
    match term:
        case Given():
            return ("argument", term.path)
        case Braces():
            return ("literal", term.at)
        case Changed():
            if told_by_step(term, name) is None:
                return ("past", term.at, lack_way(term.before, name, guide))
            return ("dropped", term.at)
        case _:
            return joined_lack_way(term, name, guide)


def joined_lack_way(join, name, guide):
    """The way by which what was made of two records lacks a name."""
    if join.sign in ("|", "+"):
        return ("neither", join.at, lack_way(join.left, name, guide), lack_way(join.right, name, guide))
    if not has_name(join.left, name, guide):
        return ("past", join.at, lack_way(join.left, name, guide))
    if join.sign == "-":
        return ("removed", join.at, have_way(join.right, name, guide))
    return ("removed", join.at, lack_way(join.right, name, guide))


def have_way(term, name, guide):
    """The way by which a record has a name."""
    match term:
        case Given():
            return ("argument", term.path)
        case Braces():
            return ("literal", term.at)
        case Changed():
            if name == new_name(term):
                return ("put", term.at)
            return ("past", term.at, have_way(term.before, name, guide))
        case _:
            return joined_have_way(term, name, guide)


def joined_have_way(join, name, guide):
    """The way by which what was made of two records has a name."""
    left = join.left
    right = join.right
    if join.sign in ("|", "+"):
        if has_name(right, name, guide):
            return ("right", join.at, have_way(right, name, guide))
        return ("left", join.at, have_way(left, name, guide))
    if join.sign == "-":
        return ("stays", join.at, have_way(left, name, guide), lack_way(right, name, guide))
    return ("stays", join.at, have_way(left, name, guide), have_way(right, name, guide))
