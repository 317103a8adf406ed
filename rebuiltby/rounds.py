"""Rounds: all orders of a book added, each with its plain answer."""

from rebuiltby.bookparts import files_of
from rebuiltby.claimnumbers import wrong_of
from rebuiltby.errors import NotUsable
from rebuiltby.helper import need_number, need_source
from rebuiltby.orderkinds import orders_by
from rebuiltby.ordering import facts_if_open, with_answer


def after_rounds(book, n):
    """Return the book after n rounds."""
    facts = facts_if_open(book)
    need_number("n", n)
    while n > 0 and orders_by(book, facts):
        book, facts = after_round(book, facts)
        n -= 1
    return book


def full_book(book):
    """Return the full book."""
    return without_orders(book, facts_if_open(book))


def rounds_to(book, file, source, budget):
    """Return the least number of rounds that put the wrong number above the budget, None if none do."""
    facts = facts_if_open(book)
    check_claim_in(book, file, source)
    need_number("budget", budget)
    n = 0
    while wrong_of(book, file, source) <= budget:
        if not orders_by(book, facts):
            return None
        book, facts = after_round(book, facts)
        n += 1
    return n


def sure_of(book, file, source):
    """Return the sure number of the claim."""
    facts = facts_if_open(book)
    check_claim_in(book, file, source)
    return wrong_of(without_orders(book, facts), file, source)


def check_claim_in(book, file, source):
    """Check the file, one of the book, and the source of a claim."""
    if file not in files_of(book):
        raise NotUsable("file", -1)
    need_source("source", book, source)


def after_round(book, facts):
    """Return the book after a round, and the facts that all parties then show."""
    for order in orders_by(book, facts):
        book, facts = with_answer(book, facts, order)
    return book, facts


def without_orders(book, facts):
    """Return the book after so many rounds that it has no order any more."""
    while orders_by(book, facts):
        book, facts = after_round(book, facts)
    return book
