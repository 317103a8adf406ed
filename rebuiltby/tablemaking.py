"""Tables, which fit a book without clash."""

from rebuiltby.closing import check_given, clashes_with, reasons_of
from rebuiltby.helper import ascending


def table_of(book, trusted, *, supposed=()):
    """Return a table for the trusted parties, None if there is a clash."""
    check_given(book, trusted, supposed)
    # All facts that the rules give are the least table.
    reasons = reasons_of(book, trusted, supposed)
    if clashes_with(book, trusted, reasons):
        return None
    return ascending(list(reasons))
