"""The checker of differences of two books."""

from rebuiltby.comparing import check_other
from rebuiltby.errors import InvalidPaper
from rebuiltby.helper import is_facts, is_parties
from rebuiltby.kinds import is_integer, is_row
from rebuiltby.stepchecker import lets_steps
from rebuiltby.tablechecker import check_table

MOST_TRUSTED = 2
MOST_SUPPOSED = 3


def lets_difference(book, other, thing):
    """Return the side of a difference of the two books."""
    check_other(book, other)
    if not is_row(thing, 6):
        raise InvalidPaper("shape", -1)
    side, trusted, supposed, what, steps, table = thing
    if not is_integer(side) or side not in (0, 1):
        raise InvalidPaper("side", -1)
    if not is_parties(book, trusted) or len(trusted) > MOST_TRUSTED:
        raise InvalidPaper("trusted", -1)
    if not is_facts(book, supposed) or len(supposed) > MOST_SUPPOSED:
        raise InvalidPaper("supposed", -1)
    books = (book, other)
    if shown_by(books[side], trusted, supposed, steps) != what:
        raise InvalidPaper("what", -1)
    check_table(books[1 - side], trusted, table, supposed)
    if what in table:
        raise InvalidPaper("there", -1)
    return side


def shown_by(book, trusted, supposed, steps):
    """Return what the steps show, by trusted parties only."""
    try:
        shown, parties = lets_steps(book, steps, supposed=supposed)
    except InvalidPaper:
        raise InvalidPaper("steps", -1) from None
    if not all([name in trusted for name in parties]):
        raise InvalidPaper("steps", -1)
    return shown
