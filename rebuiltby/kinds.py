"""The forms of values. Each function accepts any value and returns whether it is of the form."""

FIRST_SIGNS = "abcdefghijklmnopqrstuvwxyz"
SIGNS = "abcdefghijklmnopqrstuvwxyz0123456789"
LONGEST_NAME = 8


def is_integer(thing):
    """Tell whether the thing is an int that is not a bool."""
    return isinstance(thing, int) and not isinstance(thing, bool)


def is_number(thing):
    """Tell whether the thing is an integer that is at least 0."""
    return is_integer(thing) and thing >= 0


def is_name(thing):
    """Tell whether the thing is one to eight lowercase letters and digits, a letter first."""
    if not isinstance(thing, str) or not 1 <= len(thing) <= LONGEST_NAME:
        return False
    return thing[0] in FIRST_SIGNS and all([sign in SIGNS for sign in thing])


def is_names(thing):
    """Tell whether the thing is a tuple of names, in any order."""
    return isinstance(thing, tuple) and all([is_name(name) for name in thing])


def is_rising(rows):
    """Tell whether each of the rows, which can be compared, is greater than the one before."""
    return all([rows[k] < rows[k + 1] for k in range(len(rows) - 1)])


def is_set(thing):
    """Tell whether the thing is an ascending tuple of names."""
    return is_names(thing) and is_rising(thing)


def is_row(thing, many):
    """Tell whether the thing is a tuple of so many values."""
    return isinstance(thing, tuple) and len(thing) == many


def is_source(thing):
    """Tell whether the thing is a tuple (name, language, compiles, steady, uses)."""
    if not is_row(thing, 5):
        return False
    name, language, compiles, steady, uses = thing
    if not is_name(name) or not is_name(language):
        return False
    return is_set(compiles) and isinstance(steady, bool) and is_set(uses)


def is_party(thing):
    """Tell whether the thing is a pair of a name and an integer from 1 on."""
    return is_row(thing, 2) and is_name(thing[0]) and is_integer(thing[1]) and thing[1] >= 1


def is_build(thing):
    """Tell whether the thing is a tuple (party, compiler, source, parts, file)."""
    if not is_row(thing, 5):
        return False
    party, compiler, source, parts, file = thing
    if not is_name(party) or not is_name(source) or not is_name(file):
        return False
    if compiler is None:
        return parts == ()
    return is_name(compiler) and is_names(parts)


def is_fact(thing):
    """Tell whether the thing is a pair of names, of a file and a source."""
    return is_row(thing, 2) and is_name(thing[0]) and is_name(thing[1])


def is_book(thing):
    """Tell whether the thing is of the form of a book; names and order are not looked at."""
    if not is_row(thing, 4) or not all([isinstance(part, tuple) for part in thing]):
        return False
    sources, parties, unlike, builds = thing
    if not all([is_source(row) for row in sources]) or not all([is_party(row) for row in parties]):
        return False
    # A pair of sources told unlike has the form of a fact: two names.
    return all([is_fact(row) for row in unlike]) and all([is_build(row) for row in builds])
