"""Logs of watches, and watches made of them again."""

from rebuiltby.bookchecker import is_accepted
from rebuiltby.eventkinds import is_event
from rebuiltby.kinds import is_number, is_row
from rebuiltby.watches import Watch


def is_log(thing):
    """Tell whether any value is a log: a beginning, and events by form, possible or not."""
    if not isinstance(thing, tuple) or not thing or not is_row(thing[0], 3):
        return False
    word, book, budget = thing[0]
    if word != "watch" or not is_accepted(book) or not is_number(budget):
        return False
    return all([is_event(event) for event in thing[1:]])


def replayed(log):
    """Return a new watch after the events of the log; nothing is counted."""
    _, book, budget = log[0]
    watch = Watch(book, budget=budget)
    for event in log[1:]:
        watch.follow(event)
    return watch
