"""Builds without which a book shows the same."""

from rebuiltby.bookchanges import without_build
from rebuiltby.comparing import are_alike


def needless_builds(book):
    """Return the set of the indexes of the builds without each of which the book shows the same."""
    return tuple([k for k in range(len(book[3])) if is_needless(book, k)])


def lean_book(book):
    """Return what remains when needless builds are left out, from the last build to the first."""
    lean = book
    for k in reversed(range(len(book[3]))):
        if is_needless(lean, k):
            lean = without_build(lean, k)
    return lean


def is_needless(book, k):
    """Tell whether the book shows the same without build k."""
    return are_alike(book, without_build(book, k))
