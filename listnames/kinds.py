"""Whether a thing, any value at all, is of a kind."""

LABEL_SIGNS = 8
GREATEST_VALUE = 999
GREATEST_MOMENT = 1000000


def is_integer(thing):
    """Whether a thing is an integer: True and False are none."""
    return isinstance(thing, int) and not isinstance(thing, bool)


def is_label(thing):
    """Whether a thing is a string of one to eight lower-case letters."""
    if not isinstance(thing, str) or not 1 <= len(thing) <= LABEL_SIGNS:
        return False
    return all(["a" <= sign <= "z" for sign in thing])


def is_name(thing):
    """Whether a thing is a tuple of labels, however many."""
    return isinstance(thing, tuple) and all([is_label(part) for part in thing])


def is_full(thing):
    """Whether a thing is a tuple of one or more labels."""
    return is_name(thing) and thing != ()


def is_value(thing):
    """Whether a thing is a value that a name of a zone may have."""
    return is_number(GREATEST_VALUE + 1, thing)


def is_answer(thing):
    """Whether a thing is an answer: a full name with a value, or None."""
    if thing is None:
        return True
    return isinstance(thing, tuple) and len(thing) == 2 and is_full(thing[0]) and is_value(thing[1])


def is_moment(thing):
    """Whether a thing is a moment at which something may be done."""
    return is_integer(thing) and -GREATEST_MOMENT <= thing <= GREATEST_MOMENT


def is_number(many, thing):
    """Whether a thing is one of so many numbers, counted from 0."""
    return is_integer(thing) and 0 <= thing < many


def are_names(thing, most, labels):
    """Whether a thing is a list or a tuple of at most so many different names of one to so many labels."""
    if not isinstance(thing, (list, tuple)) or len(thing) > most:
        return False
    if not all([is_full(part) and len(part) <= labels for part in thing]):
        return False
    return len(set(thing)) == len(thing)
