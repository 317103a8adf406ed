"""Watches: books that are followed while events come in."""

from rebuiltby.bookchecker import lets_book
from rebuiltby.bookparts import weight_of
from rebuiltby.errors import InvalidEvent, NothingToUndo, NotUsable
from rebuiltby.eventkinds import is_event, reason_against, state_after
from rebuiltby.eventtexts import event_line
from rebuiltby.helper import names_of, need_number, need_party
from rebuiltby.judging import cleared, suspects, verdict
from rebuiltby.kinds import is_number
from rebuiltby.orderkinds import is_open, orders
from rebuiltby.standings import standing_of


class Watch:
    """A book, a budget and claims, which follow events."""

    MOST = 40
    BUILDS = 16

    def __init__(self, book, *, budget=0):
        lets_book(book)
        need_number("budget", budget)
        self._first = ("watch", book, budget)
        self._events = []
        # The states of the watch, that at the beginning and that after each of the events.
        self._states = [(book, budget, ())]
        # No event gives a party or takes one away.
        self._names = names_of(book[1])
        self._operations = 0

    @property
    def book_now(self):
        """The book as it is."""
        return self._states[-1][0]

    @property
    def budget_now(self):
        """The budget as it is."""
        return self._states[-1][1]

    @property
    def claims_now(self):
        """The set of the claims as it is."""
        return self._states[-1][2]

    def add_build(self, build):
        """Give the book a build; return the number of events before it."""
        return self.go(("build", build))

    def add_source(self, source):
        """Give the book a source; return the number of events before it."""
        return self.go(("source", source))

    def add_unlike(self, one, other):
        """Tell two sources unlike; return the number of events before it."""
        return self.go(("unlike", one, other))

    def set_weight(self, party, weight):
        """Give a party this weight; return the number of events before it."""
        return self.go(("weight", party, weight))

    def add_claim(self, file, source):
        """Give the watch a claim; return the number of events before it."""
        return self.go(("claim", file, source))

    def set_budget(self, k):
        """Set the budget; return the number of events before it."""
        return self.go(("budget", k))

    def go(self, event):
        """Apply the event; return the number of events before it."""
        self._operations += 1
        return self.follow(event)

    def follow(self, event):
        """Apply the event without counting an operation; return the number of events before it."""
        state = self._state_with(self._states[-1], len(self._events), event)
        self._events.append(event)
        self._states.append(state)
        return len(self._events) - 1

    def _state_with(self, state, many, event):
        """Return the state after the event, in a state behind so many events."""
        reason = self._reason(state, many, event)
        if reason is not None:
            raise InvalidEvent(event, reason)
        return state_after(state, event)

    def _reason(self, state, many, event):
        """Return why any value is not possible as an event in a state behind so many events, or None."""
        if not is_event(event):
            return "shape"
        if many >= Watch.MOST or event[0] == "build" and len(state[0][3]) >= Watch.BUILDS:
            return "full"
        return reason_against(state, event)

    def __getitem__(self, at):
        need_party("party", self.book_now, at)
        return weight_of(self.book_now, (at,))

    def __setitem__(self, at, worth):
        self.go(("weight", at, worth))

    def __contains__(self, x):
        return x in self._names

    def __iter__(self):
        return iter(self._names)

    def __len__(self):
        return len(self._events)

    def __eq__(self, other):
        return isinstance(other, Watch) and self._first == other._first and self._events == other._events

    def __str__(self):
        if not self._events:
            return "-"
        return " / ".join([event_line(event) for event in self._events])

    def log(self):
        """Return the tuple of what the watch began with, and of the events."""
        return (self._first, *self._events)

    def verdicts_now(self):
        """Return a row (file, source, verdict) for each claim."""
        state = self._states[-1]
        return tuple([(file, source, verdict_in(state, file, source)) for file, source in state[2]])

    def standing_now(self, file, source):
        """Return the Standing of a claim in the book as it is."""
        return standing_of(self.book_now, file, source)

    def changes(self, k):
        """Return a row (file, source, before, after) for each claim of which event k changed the verdict."""
        if not is_number(k) or k >= len(self._events):
            raise NotUsable("k", -1)
        rows = []
        for file, source in self._states[k][2]:
            before = verdict_in(self._states[k], file, source)
            after = verdict_in(self._states[k + 1], file, source)
            if before != after:
                rows.append((file, source, before, after))
        return tuple(rows)

    def alarms(self):
        """Give the pairs (k, row) of the changes to wrong or none, one by one."""
        for k in range(len(self._events)):
            for row in self.changes(k):
                if row[3] in ("wrong", "none"):
                    yield k, row

    def suspects_now(self):
        """Return the suspects of the book and the budget as they are."""
        return suspects(self.book_now, self.budget_now)

    def cleared_now(self):
        """Return those cleared by the book and the budget as they are."""
        return cleared(self.book_now, self.budget_now)

    def next_orders(self):
        """Return the orders of the book as it is, None if it is not open to orders."""
        return orders(self.book_now) if is_open(self.book_now) else None

    def barred(self, event):
        """Return the reason why any value is not possible as an event, None if it is possible."""
        return self._reason(self._states[-1], len(self._events), event)

    def table(self):
        """Return a list with a line for each claim: its numbers and its verdict."""
        lines = []
        for file, source in self.claims_now:
            standing = self.standing_now(file, source)
            word = standing(self.budget_now)
            lines.append(f"{file:<8} {source:<8} {standing.right:>3} {standing.wrong:>3} {word}")
        return lines

    def tried(self, events):
        """Return the book, the budget and the claims after these events; nothing changes."""
        if not isinstance(events, tuple):
            raise NotUsable("events", -1)
        state = self._states[-1]
        for n, event in enumerate(events):
            state = self._state_with(state, len(self._events) + n, event)
        return state

    def undo(self):
        """Take back the last event and return it."""
        self._operations += 1
        if not self._events:
            raise NothingToUndo(0)
        self._states.pop()
        return self._events.pop()

    def do_all(self, events, *, keep=False):
        """Apply the events and return their number; keep those before one that is not possible if told."""
        self._operations += 1
        if not isinstance(events, tuple):
            raise NotUsable("events", -1)
        if not keep:
            self.tried(events)
        for event in events:
            self.follow(event)
        return len(events)

    def tally(self):
        """Return how many operations were started, and how many were finished."""
        # Nobody can ask while an operation goes on, so each one that was started is finished.
        return self._operations, self._operations


def verdict_in(state, file, source):
    """Return the verdict of a claim in a state of a watch."""
    book, budget, _ = state
    return verdict(book, file, source, budget)
