"""The checker of plans."""

from rebuiltby.bookparts import files_of
from rebuiltby.claimnumbers import wrong_of
from rebuiltby.errors import InvalidPaper
from rebuiltby.helper import need_number
from rebuiltby.kinds import is_name, is_row
from rebuiltby.orderkinds import file_decided, is_order
from rebuiltby.ordering import facts_if_open, with_file
from rebuiltby.planning import added_without
from rebuiltby.rounds import check_claim_in


def lets_plan(book, file, source, budget, thing):
    """Return how many builds a plan for the claim and the budget has."""
    facts = facts_if_open(book)
    check_claim_in(book, file, source)
    need_number("budget", budget)
    if not isinstance(thing, tuple) or not all([is_row(build, 5) for build in thing]):
        raise InvalidPaper("shape", -1)
    if wrong_of(book_with(book, facts, thing), file, source) <= budget:
        raise InvalidPaper("short", -1)
    for n, build in enumerate(thing):
        if wrong_of(added_without(book, facts, thing, build), file, source) > budget:
            raise InvalidPaper("idle", n)
    return len(thing)


def book_with(book, facts, plan):
    """Return the book with the builds of the plan; check that each of them is a further build."""
    for n, build in enumerate(plan):
        if not is_order(book, facts, build[:4]):
            raise InvalidPaper("order", n)
        if not can_answer(book, facts, build):
            raise InvalidPaper("file", n)
        book, facts = with_file(book, facts, build)
    return book


def can_answer(book, facts, build):
    """Tell whether the fifth element, whatever it is, is possible as the answer to the order."""
    file = file_decided(book, facts, build[:4])
    if file is not None:
        return build[4] == file
    return is_name(build[4]) and build[4] not in files_of(book)
