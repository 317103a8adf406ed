"""What several modules need: orders, names that are reached, sources of files, and the checks of parameters."""

from rebuiltby.errors import NotUsable
from rebuiltby.kinds import is_fact, is_name, is_number, is_rising, is_set


def merged(left, right):
    """Return two ascending lists as one ascending list without duplicates."""
    rows = []
    i = 0
    j = 0
    while i < len(left) and j < len(right):
        if right[j] < left[i]:
            rows.append(right[j])
            j += 1
        else:
            # Of two equal rows only the left one is taken.
            if left[i] == right[j]:
                j += 1
            rows.append(left[i])
            i += 1
    return rows + left[i:] + right[j:]


def ascending(rows):
    """Return the list of rows as an ascending tuple without duplicates."""
    # LANGUAGE.md (L5) keeps sorted(..) to plain numbers and strings, as Book has an order.
    runs = [[row] for row in rows]
    while len(runs) > 1:
        pairs = [merged(runs[k], runs[k + 1]) for k in range(0, len(runs) - 1, 2)]
        runs = pairs + runs[2 * len(pairs):]
    return tuple(runs[0]) if runs else ()


def reached(uses, start):
    """Return the names that are reached from start, as a dict; uses has a tuple for each name."""
    found = {}
    ahead = list(uses[start])
    while ahead:
        name = ahead.pop()
        if name not in found:
            found[name] = True
            ahead.extend(uses[name])
    return found


def names_of(rows):
    """Return the names of sources or parties, in their order."""
    return tuple([row[0] for row in rows])


def has_source(book, thing):
    """Tell whether any value is the name of a source of the book."""
    return thing in names_of(book[0])


def has_party(book, thing):
    """Tell whether any value is the name of a party of the book."""
    return thing in names_of(book[1])


def sources_in(facts, file):
    """Return the sources for which the file is right, in the order of the facts."""
    return tuple([source for shown, source in facts if shown == file])


def need_name(word, thing):
    """Raise NotUsable unless the thing is a name."""
    if not is_name(thing):
        raise NotUsable(word, -1)


def need_number(word, thing):
    """Raise NotUsable unless the thing is a number."""
    if not is_number(thing):
        raise NotUsable(word, -1)


def need_source(word, book, thing):
    """Raise NotUsable unless the thing is the name of a source of the book."""
    if not has_source(book, thing):
        raise NotUsable(word, -1)


def need_party(word, book, thing):
    """Raise NotUsable unless the thing is the name of a party of the book."""
    if not has_party(book, thing):
        raise NotUsable(word, -1)


def is_parties(book, thing):
    """Tell whether any value is a set of names of parties of the book."""
    return is_set(thing) and all([has_party(book, name) for name in thing])


def is_facts(book, thing):
    """Tell whether any value is a set of facts of sources of the book."""
    if not isinstance(thing, tuple) or not all([is_fact(fact) for fact in thing]):
        return False
    return is_rising(thing) and all([has_source(book, fact[1]) for fact in thing])


def need_parties(word, book, thing):
    """Raise NotUsable unless the thing is a set of names of parties of the book."""
    if not is_parties(book, thing):
        raise NotUsable(word, -1)


def need_facts(word, book, thing):
    """Raise NotUsable unless the thing is a set of facts of sources of the book."""
    if not is_facts(book, thing):
        raise NotUsable(word, -1)
