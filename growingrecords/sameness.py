"""Tells terms that plainly have the same value for all arguments."""

from growingrecords.terms import Braces, Changed, Figure, Given, Joined


def is_same_term(left, right):
    """True if the terms plainly have the same value for all arguments, otherwise False."""
    match left:
        case Given():
            return isinstance(right, Given) and left.path == right.path
        case Figure():
            return isinstance(right, Figure) and left.value == right.value
        case Braces():
            return isinstance(right, Braces) and has_same_fields(left.fields, right.fields)
        case Changed():
            return isinstance(right, Changed) and is_same_step(left, right)
        case _:
            return isinstance(right, Joined) and is_same_join(left, right)


def has_same_fields(left, right):
    """True if the terms of two literals are the same for the same names, otherwise False."""
    if len(left) != len(right):
        return False
    for name, part in left.items():
        if name not in right or not is_same_term(part, right[name]):
            return False
    return True


def is_same_step(left, right):
    """True if the steps do the same to the same record, otherwise False."""
    if step_word(left) != step_word(right) or left.names != right.names:
        return False
    # The part of a rename is a field of the record before it.
    if step_word(left) == "put" and not is_same_term(left.part, right.part):
        return False
    return is_same_term(left.before, right.before)


def step_word(step):
    """The word of a step, or the one that does the same without ever failing."""
    if step.word == "add":
        return "put"
    return "drop" if step.word == "cut" else step.word


def is_same_join(left, right):
    """True if the joins do the same to the same records, otherwise False."""
    if join_sign(left) != join_sign(right):
        return False
    return is_same_term(left.left, right.left) and is_same_term(left.right, right.right)


def join_sign(join):
    """The sign of a join, or the one that does the same without ever failing."""
    return "|" if join.sign == "+" else join.sign
