"""Desks, which answer rows of words."""

from rebuiltby.bookreadings import is_count
from rebuiltby.booktexts import book_text, listed
from rebuiltby.errors import InvalidRow, InvalidText
from rebuiltby.eventreadings import read_event, read_log
from rebuiltby.eventtexts import event_line
from rebuiltby.kinds import is_name
from rebuiltby.watches import Watch

# How many words follow the first one of a row that is neither an event nor a watch.
WORDS_AFTER = {
    "undo": 0, "events": 0, "log": 0, "budget": 0, "suspects": 0, "cleared": 0, "party": 1, "standing": 2,
    "claims": 0, "verdicts": 0, "changes": 1, "alarms": 0, "orders": 0, "table": 0, "book": 0,
}


class Desk:
    """A watch that is spoken to by rows."""

    def __init__(self, book):
        self._watch = Watch(book)
        self._calls = 0

    def say(self, row):
        """Return the answer to the row."""
        self._calls += 1
        words = row.split(" ")
        if words[0] == "watch":
            return self._begin(row)
        if words[0] == "bars":
            return self._watch.barred(event_in(row[len("bars "):], row)) or "-"
        if is_question(words):
            return answer_to(self._watch, words)
        return str(self._watch.go(event_in(row, row)))

    def _begin(self, row):
        """Take the new watch that the row writes."""
        _, book, budget = beginning_in(row)
        self._watch = Watch(book, budget=budget)
        return "ok"

    def tally(self):
        """Return how many calls of say were started, and how many were finished."""
        # Nobody can ask while a call goes on, so each one that was started is finished.
        return self._calls, self._calls


def event_in(text, row):
    """Return the event that the text, a part of the row, writes."""
    try:
        return read_event(text)
    except InvalidText:
        raise InvalidRow(row) from None


def beginning_in(row):
    """Return the first element of a log, which is all that the row writes."""
    try:
        log = read_log(row.split("\n"))
    except InvalidText:
        raise InvalidRow(row) from None
    if len(log) > 1:
        raise InvalidRow(row)
    return log[0]


def is_question(words):
    """Tell whether the words are a possible row of those that WORDS_AFTER tells."""
    if words[0] not in WORDS_AFTER or len(words) != 1 + WORDS_AFTER[words[0]]:
        return False
    if words[0] == "changes":
        return is_count(words[1])
    return all([is_name(word) for word in words[1:]])


def answer_to(watch, words):
    """Return the answer of the watch to such a row."""
    if words[0] == "undo":
        return event_line(watch.undo())
    if words[0] == "events":
        return str(len(watch))
    if words[0] == "log":
        return str(watch)
    if words[0] == "budget":
        return str(watch.budget_now)
    if words[0] == "party":
        return str(watch[words[1]])
    if words[0] == "standing":
        return str(watch.standing_now(words[1], words[2]))
    if words[0] == "table":
        return " / ".join(watch.table()) or "-"
    if words[0] == "book":
        return book_text(watch.book_now).replace("\n", " / ") or "-"
    return " ".join(["@".join(row) for row in rows_of(watch, words)]) or "-"


def rows_of(watch, words):
    """Return the several things that a row asks for, as a list with a tuple of words for each."""
    if words[0] == "suspects":
        return [(name,) for name in watch.suspects_now()]
    if words[0] == "cleared":
        return [(name,) for name in watch.cleared_now()]
    if words[0] == "claims":
        return list(watch.claims_now)
    if words[0] == "verdicts":
        return list(watch.verdicts_now())
    if words[0] == "changes":
        return list(watch.changes(int(words[1])))
    if words[0] == "alarms":
        return [(str(k), *row) for k, row in watch.alarms()]
    found = watch.next_orders() or ()
    return [(party, compiler, source, listed(parts)) for party, compiler, source, parts in found]
