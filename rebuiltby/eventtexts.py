"""The lines by which events and logs are written."""

from rebuiltby.booktexts import book_text, build_line, source_line


def event_line(event):
    """Return the line of an event by form."""
    kind = event[0]
    if kind == "build":
        return build_line(event[1])
    if kind == "source":
        return source_line(event[1])
    # The others, unlike among them, are written word by word as they stand.
    return " ".join([str(word) for word in event])


def log_lines(log):
    """Return the lines of a log, as a list."""
    _, book, budget = log[0]
    text = book_text(book)
    lines = text.split("\n") if text else []
    event_lines = [event_line(event) for event in log[1:]]
    return [f"watch {budget} {len(lines)}", *lines, *event_lines]
