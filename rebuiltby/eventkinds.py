"""The events of a watch: their forms, why they are not possible, and what they change.

A state is what a watch has: a triple of a book, a budget and a set of claims.
"""

from rebuiltby.bookchanges import with_build, with_unlike, with_weight
from rebuiltby.helper import ascending, has_party, has_source
from rebuiltby.kinds import is_build, is_fact, is_number, is_party, is_row, is_source


def is_event(thing):
    """Tell whether any value is an event by form."""
    if not isinstance(thing, tuple) or not thing:
        return False
    kind, told = thing[0], thing[1:]
    if kind == "weight":
        return is_party(told)
    if kind in ("unlike", "claim"):
        return is_fact(told)
    if not is_row(told, 1):
        return False
    if kind == "build":
        return is_build(told[0])
    if kind == "source":
        return is_source(told[0])
    return kind == "budget" and is_number(told[0])


def reason_against(state, event):
    """Return the reason why an event by form is not possible, None if it is possible."""
    if not has_its_party(state, event):
        return "party"
    if not has_its_sources(state, event):
        return "source"
    if event[0] == "build" and not has_its_parts(state, event[1]):
        return "parts"
    if is_known(state, event):
        return "known"
    if event[0] == "source" and not all([has_source(state[0], use) for use in event[1][4]]):
        return "uses"
    return None


def has_its_party(state, event):
    """Tell whether the party that an event names is there."""
    if event[0] == "build":
        return has_party(state[0], event[1][0])
    return event[0] != "weight" or has_party(state[0], event[1])


def has_its_sources(state, event):
    """Tell whether the sources that an event names are there, and are two where they must be."""
    if event[0] == "build":
        return has_source(state[0], event[1][2])
    if event[0] == "claim":
        return has_source(state[0], event[2])
    if event[0] == "unlike":
        return has_source(state[0], event[1]) and has_source(state[0], event[2]) and event[1] != event[2]
    return True


def has_its_parts(state, build):
    """Tell whether a build has one part for each of the uses of its source."""
    uses = [source[4] for source in state[0][0] if source[0] == build[2]]
    return build[1] is None or len(build[3]) == len(uses[0])


def is_known(state, event):
    """Tell whether the state has already what an event gives."""
    book, _, claims = state
    if event[0] == "build":
        return event[1] in book[3]
    if event[0] == "source":
        return has_source(book, event[1][0])
    if event[0] == "unlike":
        return ascending([event[1], event[2]]) in book[2]
    return event[0] == "claim" and event[1:] in claims


def state_after(state, event):
    """Return the state after a possible event."""
    book, budget, claims = state
    if event[0] == "budget":
        return book, event[1], claims
    if event[0] == "claim":
        return book, budget, ascending([*claims, event[1:]])
    return book_after(book, event), budget, claims


def book_after(book, event):
    """Return the book after a possible event that changes it."""
    if event[0] == "build":
        return with_build(book, event[1])
    if event[0] == "unlike":
        return with_unlike(book, event[1], event[2])
    if event[0] == "weight":
        return with_weight(book, event[1], event[2])
    sources, parties, unlike, builds = book
    return ascending([*sources, event[1]]), parties, unlike, builds
