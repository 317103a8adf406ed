"""Steps by which trusted parties show a fact or a clash."""

from rebuiltby.closing import clashes_with, reasons_of
from rebuiltby.helper import need_facts, need_name, need_parties, need_source


def steps_to(book, trusted, file, source, *, supposed=()):
    """Return steps of trusted parties that show the fact, None if there are none."""
    need_parties("trusted", book, trusted)
    need_name("file", file)
    need_source("source", book, source)
    need_facts("supposed", book, supposed)
    reasons = reasons_of(book, trusted, supposed)
    if (file, source) not in reasons:
        return None
    return steps_for(reasons, needed(reasons, [(file, source)]))


def steps_to_clash(book, trusted, *, supposed=()):
    """Return steps of trusted parties that show a clash, None if there are none."""
    need_parties("trusted", book, trusted)
    need_facts("supposed", book, supposed)
    reasons = reasons_of(book, trusted, supposed)
    clashes = clashes_with(book, trusted, reasons)
    if not clashes:
        return None
    clash = clashes[0]
    goals = facts_behind(book, clash, reasons)
    facts = needed(reasons, goals)
    steps = steps_for(reasons, facts)
    at = [facts.index(fact) for fact in goals]
    if clash[0] == "unlike":
        return (*steps, ("unlike", *at))
    return (*steps, (*clash, *at))


def facts_behind(book, clash, reasons):
    """Return the two facts that the step of a clash rests on, as a list."""
    if clash[0] == "unlike":
        return [(clash[1], clash[2]), (clash[1], clash[3])]
    one, other = book[3][clash[1]][1], book[3][clash[2]][1]
    right = [
        name for name, _, _, steady, _ in book[0]
        if steady and (one, name) in reasons and (other, name) in reasons
    ]
    return [(one, right[0]), (other, right[0])]


def needed(reasons, goals):
    """Return the facts that the goals rest on, and the goals, each behind those that it rests on."""
    found = {}
    ahead = list(goals)
    while ahead:
        fact = ahead.pop()
        if fact not in found:
            found[fact] = True
            ahead.extend(premises_in(reasons[fact]))
    return [fact for fact in reasons if fact in found]


def premises_in(reason):
    """Return the facts that a reason names, as a list."""
    if reason[0] == "built":
        return [reason[2]] + list(reason[3])
    if reason[0] == "moved":
        return list(reason[1:])
    return []


def steps_for(reasons, facts):
    """Return a step for each of the facts; those that its reason names stand before it."""
    at = {fact: n for n, fact in enumerate(facts)}
    return tuple([step_for(reasons[fact], at) for fact in facts])


def step_for(reason, at):
    """Return the step of a reason, with indexes of steps in the place of its facts."""
    if reason[0] == "built":
        return ("built", reason[1], at[reason[2]], tuple([at[fact] for fact in reason[3]]))
    if reason[0] == "moved":
        return ("moved", at[reason[1]], at[reason[2]], at[reason[3]])
    return reason
