"""Orders with their plain answers."""

from rebuiltby.bookparts import files_of
from rebuiltby.closing import joined_by, links_in
from rebuiltby.errors import NotCalm, NotUsable
from rebuiltby.helper import names_of
from rebuiltby.kinds import is_row
from rebuiltby.orderkinds import facts_by_all, file_decided, is_fit, is_order
from rebuiltby.stepsmaking import steps_to_clash


def plain_answer(book, party, compiler, source, parts):
    """Return the plain answer of the order of these four."""
    facts = facts_if_open(book)
    order = (party, compiler, source, parts)
    if not is_order(book, facts, order):
        raise NotUsable("order", -1)
    return file_answered(book, facts, order)


def answered(book, *orders):
    """Return the book with these orders, each with its plain answer in the book with those before it."""
    facts = facts_if_open(book)
    for k, order in enumerate(orders):
        if not is_row(order, 4) or not is_order(book, facts, order):
            raise NotUsable("order", k)
        book, facts = with_answer(book, facts, order)
    return book


def facts_if_open(book):
    """Return a dict of the facts that all parties show; the book must be open to orders."""
    facts = facts_by_all(book)
    if not is_fit(book, facts):
        raise NotUsable("book", -1)
    steps = steps_to_clash(book, names_of(book[1]))
    if steps is not None:
        raise NotCalm(steps)
    return facts


def file_answered(book, facts, order):
    """Return the plain answer of an order of the book; the facts are those by all parties."""
    file = file_decided(book, facts, order)
    return fresh_file(files_of(book)) if file is None else file


def fresh_file(files):
    """Return the first name n0, n1 and so on that is none of the files."""
    n = 0
    while f"n{n}" in files:
        n += 1
    return f"n{n}"


def with_answer(book, facts, order):
    """Return the book with the order and its plain answer, and the facts that all parties then show."""
    return with_file(book, facts, (*order, file_answered(book, facts, order)))


def with_file(book, facts, build):
    """Return the book with a further build, and the facts that all parties then show."""
    sources, parties, unlike, builds = book
    links = links_in(facts)
    more = {fact: facts[fact] for fact in facts}
    # Nothing else comes: a file that decides the order is right for these sources already, and a
    # fresh one is no compiler and no part of a build.
    for name in joined_by(book, links, build[2]):
        more[(build[4], name)] = True
    return (sources, parties, unlike, (*builds, build)), more
