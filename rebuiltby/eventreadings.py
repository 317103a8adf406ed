"""What the lines of events, and those of logs, are read as."""

from rebuiltby.bookreadings import build_read, lines_read, source_read, words_of
from rebuiltby.errors import InvalidText

EVENTS = ("build", "source", "unlike", "weight", "claim", "budget")


def read_event(text):
    """Return the event that the text writes."""
    return event_read(text, 0)


def read_log(lines):
    """Return the log that the list of lines writes; its book may be none."""
    if not lines:
        raise InvalidText(0, 0)
    _, budget, told = words_of("watch", lines[0], 0)
    many = int(told)
    book_lines = lines[1:1 + many]
    book = lines_read(book_lines, 1)
    if len(book_lines) < many:
        raise InvalidText(len(lines), 0)
    events = [event_read(text, at) for at, text in enumerate(lines) if at > many]
    return (("watch", book, int(budget)), *events)


def event_read(text, line):
    """Return the event that the text writes; line is what an error tells."""
    kind = text.split(" ")[0]
    if kind not in EVENTS:
        raise InvalidText(line, 0)
    if kind == "build":
        return kind, build_read(text, line=line)
    if kind == "source":
        return kind, source_read(text, line=line)
    words = words_of(kind, text, line)
    if kind == "weight":
        return kind, words[1], int(words[2])
    if kind == "budget":
        return kind, int(words[1])
    return tuple(words)
